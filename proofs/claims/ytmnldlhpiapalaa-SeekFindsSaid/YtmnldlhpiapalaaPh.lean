/-
  Parts of trees, rows of trees, a plan.
-/
import Derived.Test.YtmnldlhpiapalaaTu11
import Derived.Test.YtmnldlhpiapalaaOd11
import Derived.Test.YtmnldlhpiapalaaSh11
import Derived.Test.YtmnldlhpiapalaaSv11
import Derived.Test.YtmnldlhpiapalaaSk10
namespace Go.Proofs.Ytmnldlhpiapalaa
open Go.ChangeShapes Go.WideShapes Go.ChangeAt Go.RowKit
set_option linter.unusedVariables false
set_option linter.unusedSimpArgs false
set_option maxRecDepth 20000

mutual
/-- A leaf has nothing below it; an inner node one key fewer than ways; keys rise. -/
def Sh.wf : Sh → Prop
  | .mk lf _ _ ks kids => (lf = true ∧ kids = [] ∧ ks = [] ∨ lf = false ∧ ks.length + 1 = kids.length) ∧ Asc1 ks ∧ Sh.wfL kids
def Sh.wfL : List Sh → Prop
  | [] => True
  | s :: l => s.wf ∧ Sh.wfL l
end
theorem wfL_mem {l : List Sh} (h : Sh.wfL l) {s : Sh} (hs : s ∈ l) : s.wf := by
  induction l with
  | nil => cases hs
  | cons a l ih =>
    rcases List.mem_cons.1 hs with rfl | hs
    · exact h.1
    · exact ih h.2 hs
mutual
/-- How deep each node's tree is, in the order of places. -/
def Sh.rks : Sh → List Nat
  | .mk _ _ _ _ kids => Sh.rksL kids ++ [Sh.deepL kids]
def Sh.rksL : List Sh → List Nat
  | [] => []
  | s :: l => s.rks ++ Sh.rksL l
end
mutual
theorem rks_len : ∀ (s : Sh), s.rks.length = s.many
  | .mk lf tg ps ks kids => by simp only [Sh.rks, Sh.many, List.length_append, List.length_singleton, rksL_len kids]
theorem rksL_len : ∀ (l : List Sh), (Sh.rksL l).length = Sh.manyL l
  | [] => rfl
  | s :: l => by simp only [Sh.rksL, Sh.manyL, List.length_append, rks_len s, rksL_len l]
end
theorem rksL_append (l m : List Sh) : Sh.rksL (l ++ m) = Sh.rksL l ++ Sh.rksL m := by
  induction l with
  | nil => rfl
  | cons s l ih => simp only [List.cons_append, Sh.rksL, ih, List.append_assoc]
theorem deep_lt {l : List Sh} {s : Sh} (h : s ∈ l) : s.deep < Sh.deepL l := by
  induction l with
  | nil => cases h
  | cons a l ih =>
    simp only [Sh.deepL]
    rcases List.mem_cons.1 h with rfl | h
    · omega
    · have := ih h; omega
def ndS : Sh → Nat → Nd
  | .mk lf tg ps ks kids, i => ⟨!lf, tg, ps, ks, refsL kids i⟩
def paS : Sh → Nat → Pa
  | .mk lf tg ps ks kids, i => ⟨true, 1, ⟨!lf, tg, ps, ks, refsL kids i⟩, refsL kids i, 0, false⟩
/-- Where a part of a tree stands. -/
def Seg (s : Sh) (i : Nat) (x : Sh) : Prop := ∃ a b c e, s.pas 2 = a ++ (x.pas i ++ b) ∧ a.length + 2 = i ∧ s.rks = c ++ (x.rks ++ e) ∧ c.length = a.length
theorem Seg.root (s : Sh) : Seg s 2 s := ⟨[], [], [], [], by simp, rfl, by simp, rfl⟩
section
variable {s x : Sh} {i : Nat}
theorem kids_split {kids : List Sh} {k : Nat} (hk : kids[k]? = some x) : kids = kids.take k ++ (x :: kids.drop (k + 1)) := by
  have h := List.getElem?_eq_some_iff.1 hk
  obtain ⟨h1, h2⟩ := h
  rw [← h2, List.getElem_cons_drop, List.take_append_drop]
theorem Seg.kid {lf tg : Bool} {ps : List (Int × Int)} {ks : List Int} {kids : List Sh} (h : Seg s i (.mk lf tg ps ks kids)) {k : Nat} (hk : kids[k]? = some x) : Seg s (i + Sh.manyL (kids.take k)) x := by
  obtain ⟨a, b, c, e, h1, h2, h3, h4⟩ := h
  have hs := kids_split hk
  refine ⟨a ++ Sh.pasL (kids.take k) i, Sh.pasL (kids.drop (k + 1)) (i + Sh.manyL (kids.take k) + x.many) ++ ([⟨true, 1, ⟨!lf, tg, ps, ks, refsL kids i⟩, refsL kids i, 0, false⟩] ++ b), c ++ Sh.rksL (kids.take k), Sh.rksL (kids.drop (k + 1)) ++ ([Sh.deepL kids] ++ e), ?_, ?_, ?_, ?_⟩
  · rw [h1]
    simp only [Sh.pas]
    have e1 : Sh.pasL kids i = Sh.pasL (kids.take k) i ++ (x.pas (i + Sh.manyL (kids.take k)) ++ Sh.pasL (kids.drop (k + 1)) (i + Sh.manyL (kids.take k) + x.many)) := by
      conv => lhs; rw [hs]
      rw [pasL_append]
      rfl
    rw [e1]
    simp only [List.append_assoc]
  · rw [List.length_append, pasL_len]; omega
  · rw [h3]
    simp only [Sh.rks]
    have e1 : Sh.rksL kids = Sh.rksL (kids.take k) ++ (x.rks ++ Sh.rksL (kids.drop (k + 1))) := by
      conv => lhs; rw [hs]
      rw [rksL_append]
      rfl
    rw [e1]
    simp only [List.append_assoc]
  · rw [List.length_append, List.length_append, pasL_len, rksL_len, h4]
theorem pas_last (x : Sh) (i : Nat) : (x.pas i)[x.many - 1]? = some (paS x i) := by
  obtain ⟨lf, tg, ps, ks, kids⟩ := x
  simp only [Sh.pas, Sh.many, paS]
  rw [List.getElem?_append_right (by rw [pasL_len]; omega), pasL_len]
  simp
theorem rks_last (x : Sh) : x.rks[x.many - 1]? = some x.deep := by
  obtain ⟨lf, tg, ps, ks, kids⟩ := x
  simp only [Sh.rks, Sh.many, Sh.deep]
  rw [List.getElem?_append_right (by rw [rksL_len]; omega), rksL_len]
  simp
theorem Seg.at_ (h : Seg s i x) : 2 ≤ i ∧ (s.pas 2)[i + x.many - 1 - 2]? = some (paS x i) ∧ s.rks[i + x.many - 1 - 2]? = some x.deep ∧ i + x.many ≤ 2 + s.many := by
  obtain ⟨a, b, c, e, h1, h2, h3, h4⟩ := h
  have hp := many_pos x
  have hl := pas_len x i
  have hl2 := rks_len x
  have hs := pas_len s 2
  refine ⟨by omega, ?_, ?_, ?_⟩
  · rw [h1, List.getElem?_append_right (by omega), List.getElem?_append_left (by omega), show i + x.many - 1 - 2 - a.length = x.many - 1 from by omega]
    exact pas_last x i
  · rw [h3, List.getElem?_append_right (by omega), List.getElem?_append_left (by omega), show i + x.many - 1 - 2 - c.length = x.many - 1 from by omega]
    exact rks_last x
  · rw [h1, List.length_append, List.length_append] at hs; omega
end
mutual
theorem pas_from (Q : Nat → Sh → Prop) (hQ : ∀ i lf tg ps ks kids k x, Q i (.mk lf tg ps ks kids) → kids[k]? = some x → Q (i + Sh.manyL (kids.take k)) x) : ∀ (x : Sh) (i : Nat), Q i x → ∀ (j : Nat) (p : Pa), (x.pas i)[j]? = some p → ∃ i' x', Q i' x' ∧ i + j = i' + x'.many - 1
  | .mk lf tg ps ks kids, i => fun h j p hj => by
    simp only [Sh.pas] at hj
    by_cases hlt : j < Sh.manyL kids
    · rw [List.getElem?_append_left (by rw [pasL_len]; exact hlt)] at hj
      exact pasL_from Q hQ kids i (fun k x hk => hQ i lf tg ps ks kids k x h hk) j p hj
    · have := (List.getElem?_eq_some_iff.1 hj).1
      rw [List.length_append, pasL_len, List.length_singleton] at this
      exact ⟨i, _, h, by simp only [Sh.many]; omega⟩
theorem pasL_from (Q : Nat → Sh → Prop) (hQ : ∀ i lf tg ps ks kids k x, Q i (.mk lf tg ps ks kids) → kids[k]? = some x → Q (i + Sh.manyL (kids.take k)) x) : ∀ (l : List Sh) (i : Nat), (∀ (k : Nat) (x : Sh), l[k]? = some x → Q (i + Sh.manyL (l.take k)) x) → ∀ (j : Nat) (p : Pa), (Sh.pasL l i)[j]? = some p → ∃ i' x', Q i' x' ∧ i + j = i' + x'.many - 1
  | [], i => fun _ j p hj => by simp [Sh.pasL] at hj
  | s :: l, i => fun h j p hj => by
    simp only [Sh.pasL] at hj
    by_cases hlt : j < s.many
    · rw [List.getElem?_append_left (by rw [pas_len]; exact hlt)] at hj
      exact pas_from Q hQ s i (by simpa [Sh.manyL] using h 0 s rfl) j p hj
    · rw [List.getElem?_append_right (by rw [pas_len]; omega), pas_len] at hj
      obtain ⟨i', x', h1, h2⟩ := pasL_from Q hQ l (i + s.many) (fun k x hk => by
        have := h (k + 1) x (by simpa using hk)
        simpa [Sh.manyL, Nat.add_assoc] using this) (j - s.many) p hj
      exact ⟨i', x', h1, by omega⟩
end
theorem Seg.from_ {s : Sh} {j : Nat} {p : Pa} (h : (s.pas 2)[j]? = some p) : ∃ i x, Seg s i x ∧ 2 + j = i + x.many - 1 :=
  pas_from (Seg s) (fun i lf tg ps ks kids k x h hk => h.kid hk) s 2 (Seg.root s) j p h
/-- The table of some places. -/
def tabF : List Pa → Nat → List (Int × Nd)
  | [], _ => []
  | p :: l, i => (Go.Proofs.Ytmnldlhpiapalaa.mk (i : Int) 1, p.nd) :: tabF l (i + 1)
theorem mk_inj {i j : Nat} (hi : i < 1000000) (hj : j < 1000000) (h : Go.Proofs.Ytmnldlhpiapalaa.mk (i : Int) 1 = Go.Proofs.Ytmnldlhpiapalaa.mk (j : Int) 1) : i = j := by unfold Go.Proofs.Ytmnldlhpiapalaa.mk at h; omega
theorem tab_lookup {l : List Pa} {i j : Nat} {p : Pa} (hj : l[j]? = some p) (hi : i + l.length < 1000000) : (tabF l i).lookup (Go.Proofs.Ytmnldlhpiapalaa.mk ((i + j : Nat) : Int) 1) = some p.nd := by
  induction l generalizing i j with
  | nil => cases hj
  | cons q l ih =>
    simp only [List.length_cons] at hi
    have hlt := (List.getElem?_eq_some_iff.1 hj).1
    simp only [List.length_cons] at hlt
    simp only [tabF, List.lookup]
    cases j with
    | zero => injection hj with hj; subst hj; simp
    | succ j =>
      have hne : (Go.Proofs.Ytmnldlhpiapalaa.mk ((i + (j + 1) : Nat) : Int) 1 == Go.Proofs.Ytmnldlhpiapalaa.mk (i : Int) 1) = false := by
        simp only [beq_eq_false_iff_ne, ne_eq]
        intro e
        have := mk_inj (by omega) (by omega) e
        omega
      rw [hne]
      have := ih (i := i + 1) (j := j) (by simpa using hj) (by omega)
      rw [show i + 1 + j = i + (j + 1) from by omega] at this
      exact this
theorem tab_mem {l : List Pa} {i : Nat} {x : Int × Nd} (h : x ∈ tabF l i) : ∃ j p, l[j]? = some p ∧ x = (Go.Proofs.Ytmnldlhpiapalaa.mk ((i + j : Nat) : Int) 1, p.nd) := by
  induction l generalizing i with
  | nil => cases h
  | cons q l ih =>
    rcases List.mem_cons.1 h with rfl | h
    · exact ⟨0, q, rfl, rfl⟩
    · obtain ⟨j, p, h1, h2⟩ := ih h
      exact ⟨j + 1, p, by simpa using h1, by rw [h2, show i + 1 + j = i + (j + 1) from by omega]⟩
def ndsT (s : Sh) : List (Int × Nd) := (m11, entryNd) :: tabF (s.pas 2) 2
def rkT (s : Sh) (z : Int) : Nat := if z = m11 then s.deep + 1 else s.rks.getD ((pl z).toNat - 2) 0
/-- A part's root. -/
def refS (i : Nat) (x : Sh) : Int := Go.Proofs.Ytmnldlhpiapalaa.mk ((i + x.many - 1 : Nat) : Int) 1
section
variable {s x : Sh} {i m : Nat}
theorem refsL_at {l : List Sh} {k : Nat} (hk : l[k]? = some x) : (refsL l i)[k]? = some (refS (i + Sh.manyL (l.take k)) x) := by
  induction l generalizing i k with
  | nil => cases hk
  | cons s l ih =>
    cases k with
    | zero => injection hk with hk; subst hk; simp [refsL, Sh.manyL, refS]
    | succ k =>
      have := ih (i := i + s.many) (k := k) (by simpa using hk)
      simp only [refsL, List.getElem?_cons_succ, List.take_succ_cons, Sh.manyL]
      rw [this, Nat.add_assoc]
theorem Seg.look (h : Seg s i x) (hs : s.many ≤ 50000) : (ndsT s).lookup (refS i x) = some (ndS x i) ∧ rkT s (refS i x) = x.deep ∧ refS i x ≠ m11 := by
  obtain ⟨h2, h3, h4, h5⟩ := h.at_
  have hp := many_pos x
  have hl := pas_len s 2
  have hne : refS i x ≠ m11 := fun e => by
    have := mk_inj (i := i + x.many - 1) (j := 1) (by omega) (by omega) e
    omega
  have e1 : refS i x = Go.Proofs.Ytmnldlhpiapalaa.mk ((2 + (i + x.many - 1 - 2) : Nat) : Int) 1 := by unfold refS; rw [show 2 + (i + x.many - 1 - 2) = i + x.many - 1 from by omega]
  have e2 : (paS x i).nd = ndS x i := by cases x; rfl
  refine ⟨?_, ?_, hne⟩
  · unfold ndsT
    simp only [List.lookup]
    have hb : (refS i x == m11) = false := by simpa using hne
    rw [hb, e1, tab_lookup h3 (by omega), e2]
  · unfold rkT
    rw [if_neg hne]
    have e3 : (pl (refS i x)).toNat - 2 = i + x.many - 1 - 2 := by unfold refS pl Go.Proofs.Ytmnldlhpiapalaa.mk; omega
    rw [e3]
    simp [List.getD, h4]
theorem Seg.wf (hw : s.wf) (h : Seg s i x) : True := trivial
end
end Go.Proofs.Ytmnldlhpiapalaa
namespace Go.Proofs.Ytmnldlhpiapalaa
open Go.ChangeShapes Go.WideShapes Go.ChangeAt Go.RowKit
set_option linter.unusedVariables false
set_option linter.unusedSimpArgs false
set_option maxRecDepth 20000

/-- A part of a tree, as it may be. -/
structure Sg (s : Sh) (i : Nat) (x : Sh) : Prop where
  seg : Seg s i x
  wf : x.wf
  small : x.small
section
variable {s x : Sh} {i m : Nat} {key : Int}
theorem Sg.kid {lf tg : Bool} {ps : List (Int × Int)} {ks : List Int} {kids : List Sh} (h : Sg s i (.mk lf tg ps ks kids)) {k : Nat} (hk : kids[k]? = some x) : Sg s (i + Sh.manyL (kids.take k)) x :=
  ⟨h.seg.kid hk, wfL_mem h.wf.2.2 (List.mem_of_getElem? hk), smallL_mem h.small.2.2.2 (List.mem_of_getElem? hk)⟩
theorem Sg.from_ (hw : s.wf) (hs : s.small) {j : Nat} {p : Pa} (h : (s.pas 2)[j]? = some p) : ∃ i x, Sg s i x ∧ 2 + j = i + x.many - 1 ∧ p = paS x i := by
  obtain ⟨i, x, h1, h2⟩ := pas_from (Sg s) (fun i lf tg ps ks kids k x h hk => h.kid hk) s 2 ⟨Seg.root s, hw, hs⟩ j p h
  refine ⟨i, x, h1, h2, ?_⟩
  have h3 := h1.seg.at_
  have h4 := many_pos x
  rw [show i + x.many - 1 - 2 = j from by omega, h] at h3
  injection h3.2.1
theorem Sg.nd (h : Sg s i x) : (ndS x i).small ∧ Asc1 (ndS x i).ks := by
  obtain ⟨lf, tg, ps, ks, kids⟩ := x
  obtain ⟨h1, h2, h3, -⟩ := h.small
  exact ⟨⟨h1, h2, by show (refsL kids i).length ≤ 100; rw [refsL_len]; exact h3⟩, h.wf.2.1⟩
theorem ndsT_mem (hw : s.wf) (hs : s.small) {z : Int × Nd} (hz : z ∈ ndsT s) : z = (m11, entryNd) ∨ ∃ i x, Sg s i x ∧ z = (refS i x, ndS x i) ∧ (s.pas 2)[i + x.many - 1 - 2]? = some (paS x i) ∧ 2 ≤ i + x.many - 1 := by
  rcases List.mem_cons.1 hz with rfl | hz
  · exact .inl rfl
  · obtain ⟨j, p, h1, h2⟩ := tab_mem hz
    obtain ⟨i, x, h3, h4, h5⟩ := Sg.from_ hw hs h1
    refine .inr ⟨i, x, h3, ?_, ?_, by omega⟩
    · rw [h2, h5]
      have e2 : (paS x i).nd = ndS x i := by cases x; rfl
      rw [e2, h4]; rfl
    · rw [← h5, show i + x.many - 1 - 2 = j from by omega]; exact h1
theorem nds_ok (hw : s.wf) (hs : s.small) : NdsOk (ndsT s) := by
  intro z hz
  rcases ndsT_mem hw hs hz with rfl | ⟨i, x, h, rfl, -⟩
  · exact ⟨by unfold Nd.small entryNd; simp, asc_nil⟩
  · exact h.nd
theorem ref_in (i : Nat) (x : Sh) : in64 (refS i x) := by
  have := mk_range ((i + x.many - 1 : Nat) : Int) 1
  unfold in64 refS; omega
theorem refsL_in (l : List Sh) (i : Nat) : ∀ z ∈ refsL l i, in64 z := by
  intro z hz
  obtain ⟨k, hk, rfl⟩ := List.mem_iff_getElem.1 hz
  rw [refsL_len] at hk
  have := refsL_at (i := i) (List.getElem?_eq_getElem hk)
  rw [List.getElem?_eq_getElem (by rw [refsL_len]; exact hk)] at this
  injection this with this
  rw [this]; exact ref_in _ _
theorem hit_plant (h : Sg s i x) (hs : s.many ≤ 50000) : (plantSig m 1 s).ar.hit (refS i x) = some (i + x.many - 1, paS x i) := by
  obtain ⟨h2, h3, h4, h5⟩ := h.seg.at_
  have hp := many_pos x
  have e2 : (paS x i).cnt = 1 := by cases x; rfl
  have e3 : (paS x i).used = true := by cases x; rfl
  refine hit_mkN (i := i + x.many - 1) (p := paS x i) ?_ e3 (by omega) (by rw [e2]; rfl)
  show (Pa.gone 1 :: { entryPa with ws := [rootR s] } :: s.pas 2)[i + x.many - 1]? = _
  obtain ⟨k, hk⟩ : ∃ k, i + x.many - 1 = k + 2 := ⟨i + x.many - 1 - 2, by omega⟩
  rw [hk, List.getElem?_cons_succ, List.getElem?_cons_succ]
  rw [show i + x.many - 1 - 2 = k from by omega] at h3
  exact h3
theorem ok_plant (hs : s.many ≤ 50000) : Ok (plantSig m 1 s).ar := by
  refine ⟨by show (Pa.gone 1 :: { entryPa with ws := [rootR s] } :: s.pas 2).length ≤ _; simp only [List.length_cons, pas_len]; omega, fun p hp => ?_, by simp [plantSig], by simp [plantSig]⟩
  rcases List.mem_cons.1 hp with rfl | hp
  · show (1 : Nat) ≤ 1000000; omega
  · rcases List.mem_cons.1 hp with rfl | hp
    · show (1 : Nat) ≤ 1000000; omega
    · rw [pas_cnt s 2 p hp]; omega
theorem hit_entry : (plantSig m 1 s).ar.hit m11 = some (1, { entryPa with ws := [rootR s] }) := hit_mkN (i := 1) (p := { entryPa with ws := [rootR s] }) rfl rfl (by omega) rfl
theorem root_ref : rootR s = refS 2 s := by unfold rootR refS; rw [show 2 + s.many - 1 = 1 + s.many from by omega]
theorem pas_info (hw : s.wf) (hs : s.small) : ∀ p ∈ s.pas 2, in64 p.info ∧ ∀ z ∈ p.ws, in64 z := by
  intro p hp
  obtain ⟨j, hj, rfl⟩ := List.mem_iff_getElem.1 hp
  obtain ⟨i, x, h1, h2, h3⟩ := Sg.from_ hw hs (List.getElem?_eq_getElem hj)
  rw [h3]
  obtain ⟨lf, tg, ps, ks, kids⟩ := x
  exact ⟨in01.1, refsL_in kids i⟩
theorem ski_plant (hw : s.wf) (hsm : s.small) (hs : s.many ≤ 50000) : SkI (ndsT s) (rkT s) 1 m (plantSig m 1 s) := by
  refine ⟨⟨fun z hz => ?_, fun z hz => (by cases hz), Nat.zero_le _, fun p hp y hy => ?_, (ok_plant hs).len, (ok_plant hs).cnt⟩, rfl, fun z hz hi => ?_⟩
  · rcases ndsT_mem hw hsm hz with rfl | ⟨i, x, h, rfl, -⟩
    · exact ⟨1, _, hit_entry, rfl⟩
    · exact ⟨_, _, hit_plant h hs, by cases x; rfl⟩
  · rcases List.mem_cons.1 (show p ∈ Pa.gone 1 :: { entryPa with ws := [rootR s] } :: s.pas 2 from hp) with rfl | hp
    · cases hy
    · rcases List.mem_cons.1 hp with rfl | hp
      · obtain rfl : y = rootR s := by simpa using hy
        rw [root_ref]; exact ref_in _ _
      · exact (pas_info hw hsm p hp).2 y hy
  · rcases ndsT_mem hw hsm hz with rfl | ⟨i, x, h, rfl, -⟩
    · refine ⟨1, _, hit_entry, rfl, Nat.le_refl _, fun y hy => ?_⟩
      obtain rfl : y = rootR s := by simpa using hy
      rw [root_ref]
      have h1 := (Seg.root s).look hs
      refine ⟨by rw [h1.1]; rfl, ?_⟩
      rw [h1.2.1]
      show s.deep < rkT s m11
      unfold rkT
      rw [if_pos rfl]; omega
    · obtain ⟨lf, tg, ps, ks, kids⟩ := x
      have hlf : lf = false := by
        have : (!lf) = true := hi
        simpa using this
      subst hlf
      have hk : ks.length + 1 = kids.length := by
        rcases h.wf.1 with ⟨e, -⟩ | ⟨-, e⟩
        · cases e
        · exact e
      refine ⟨_, _, hit_plant h hs, rfl, by show 1 ≤ (refsL kids i).length; rw [refsL_len]; omega, fun y hy => ?_⟩
      have hy : y ∈ refsL kids i := hy
      obtain ⟨k, hk2, rfl⟩ := List.mem_iff_getElem.1 hy
      rw [refsL_len] at hk2
      have h1 := refsL_at (i := i) (List.getElem?_eq_getElem hk2)
      rw [List.getElem?_eq_getElem (by rw [refsL_len]; exact hk2)] at h1
      injection h1 with h1
      rw [h1]
      have h2 := (h.kid (List.getElem?_eq_getElem hk2)).seg.look hs
      refine ⟨by rw [h2.1]; rfl, ?_⟩
      rw [h2.2.1, (h.seg.look hs).2.1]
      exact deep_lt (List.getElem_mem hk2)
theorem fit_plant (hw : s.wf) (hsm : s.small) (hs : s.many ≤ 50000) : Fit (plantSig m 1 s) :=
  ⟨ok_plant hs, fun i hi => (by
    obtain rfl : i = 0 := by simpa [plantSig] using hi
    show 0 < (Pa.gone 1 :: { entryPa with ws := [rootR s] } :: s.pas 2).length
    simp), by show (0 : Int) ≤ 0 ∧ (0 : Int) ≤ 1000000; omega, by show (1 : Nat) ≤ 64; omega, fun x hx => (by
    obtain rfl : x = (-1, []) := by simpa [plantSig] using hx
    exact in01.2.2), fun x hx => (by
    obtain rfl : x = (-1, []) := by simpa [plantSig] using hx
    exact ⟨by simp, fun p hp => by cases hp⟩), ⟨by simp [plantSig], fun p hp => (by
    rcases List.mem_cons.1 (show p ∈ Pa.gone 1 :: { entryPa with ws := [rootR s] } :: s.pas 2 from hp) with rfl | hp
    · exact in01.1
    · rcases List.mem_cons.1 hp with rfl | hp
      · exact in01.1
      · exact (pas_info hw hsm p hp).1)⟩⟩
theorem ok1_plant (hs : s.many ≤ 50000) : Ok1 (ndsT s) (rkT s) (s.deep + 1) m11 := ⟨by show ((ndsT s).lookup m11).isSome = true; unfold ndsT; simp [List.lookup], by unfold rkT; rw [if_pos rfl]; omega⟩
/-- A step down from an inner node. -/
theorem step_down {tg : Bool} {ps : List (Int × Int)} {ks : List Int} {kids : List Sh} (h : Sg s i (.mk false tg ps ks kids)) (hs : s.many ≤ 50000) {f : Nat} : ∃ k x', kids[k]? = some x' ∧ k = wayL ks key ∧ wyOf (ndS (.mk false tg ps ks kids) i) key = (k : Int) ∧
    wayAt (paS (.mk false tg ps ks kids) i) (k : Int) = refS (i + Sh.manyL (kids.take k)) x' ∧
    pathS (ndsT s) key (plantSig m 1 s) (f + 1) (refS i (.mk false tg ps ks kids)) = ⟨refS i (.mk false tg ps ks kids), ndS (.mk false tg ps ks kids) i, (k : Int)⟩ :: pathS (ndsT s) key (plantSig m 1 s) f (refS (i + Sh.manyL (kids.take k)) x') := by
  have hk : ks.length + 1 = kids.length := by
    rcases h.wf.1 with ⟨e, -⟩ | ⟨-, e⟩
    · cases e
    · exact e
  have hw := wayL_le ks key
  have hlt : wayL ks key < kids.length := by omega
  have hx : kids[wayL ks key]? = some kids[wayL ks key] := List.getElem?_eq_getElem hlt
  have hwy : wyOf (ndS (.mk false tg ps ks kids) i) key = ((wayL ks key : Nat) : Int) := by
    unfold wyOf ndS heldW
    simp only [Bool.not_false, if_true, refsL_len]
    congr 1
    omega
  have hr := refsL_at (i := i) hx
  have hwa : wayAt (paS (.mk false tg ps ks kids) i) ((wayL ks key : Nat) : Int) = refS (i + Sh.manyL (kids.take (wayL ks key))) kids[wayL ks key] := by
    unfold wayAt hasB paS
    simp only [refsL_len]
    rw [if_pos (by simp; omega), Int.toNat_natCast]
    simp [List.getD, hr]
  refine ⟨wayL ks key, _, hx, rfl, hwy, hwa, ?_⟩
  rw [pathS_at (h.seg.look hs).1]
  have hinn : (ndS (.mk false tg ps ks kids) i).inn = true := rfl
  rw [if_pos hinn, hwy]
  congr 1
  unfold gWay gAr As.with
  rw [hit_plant h hs]
  simp only
  rw [hwa]
theorem leaf_here {tg : Bool} {ps : List (Int × Int)} {ks : List Int} {kids : List Sh} (h : Sg s i (.mk true tg ps ks kids)) (hs : s.many ≤ 50000) {f : Nat} : pathS (ndsT s) key (plantSig m 1 s) (f + 1) (refS i (.mk true tg ps ks kids)) = [⟨refS i (.mk true tg ps ks kids), ndS (.mk true tg ps ks kids) i, 0⟩] := by
  rw [pathS_at (h.seg.look hs).1]
  rfl
theorem entry_here (hs : s.many ≤ 50000) {f : Nat} : pathS (ndsT s) key (plantSig m 1 s) (f + 1) m11 = ⟨m11, entryNd, 0⟩ :: pathS (ndsT s) key (plantSig m 1 s) f (refS 2 s) := by
  have hl : (ndsT s).lookup m11 = some entryNd := by unfold ndsT; simp [List.lookup]
  rw [pathS_at hl]
  have hinn : entryNd.inn = true := rfl
  have hwy : wyOf entryNd key = 0 := rfl
  have e : (gWay m11 0 (plantSig m 1 s)).1 = refS 2 s := by
    unfold gWay gAr As.with
    rw [hit_entry]
    simp only
    rw [show wayAt { entryPa with ws := [rootR s] } 0 = rootR s from by unfold wayAt hasB; simp, root_ref]
  rw [if_pos hinn, hwy, e]
end
end Go.Proofs.Ytmnldlhpiapalaa
namespace Go.Proofs.Ytmnldlhpiapalaa
open Go.ChangeShapes Go.WideShapes Go.ChangeAt Go.RowKit
set_option linter.unusedVariables false
set_option linter.unusedSimpArgs false
set_option maxRecDepth 20000

mutual
/-- A tree in memory: what it is of lies in blocks of Y. -/
def ShY (Y : Nat → Prop) (w : World) : Sh → Value → Prop
  | .mk lf tg ps ks kids, v => ∃ A n c B m e C p q, v = shv lf tg (.slice A n c) (.slice B m e) (.slice C p q) ∧ Lp w A n c ps ∧ (∀ ad, A = some ad → Y ad.block) ∧ Sl w B m e ks ∧ (∀ ad, B = some ad → Y ad.block) ∧ p = kids.length ∧ p ≤ q ∧ (kids = [] ∨ ∃ g off, C = some ⟨g, off, none⟩ ∧ Y g ∧ ShYC Y w kids g off)
/-- Trees side by side. -/
def ShYC (Y : Nat → Prop) (w : World) : List Sh → Nat → Nat → Prop
  | [], _, _ => True
  | s :: l, g, off => (∃ lf tg A n c B m e C p q, w.cell? ⟨g, off, none⟩ = some (.bool lf) ∧ w.cell? ⟨g, off + 1, none⟩ = some (.bool tg) ∧ w.cell? ⟨g, off + 2, none⟩ = some (.slice A n c) ∧ w.cell? ⟨g, off + 3, none⟩ = some (.slice B m e) ∧ w.cell? ⟨g, off + 4, none⟩ = some (.slice C p q) ∧ ShY Y w s (shv lf tg (.slice A n c) (.slice B m e) (.slice C p q))) ∧ ShYC Y w l g (off + 5)
end
section
variable {Y Y' : Nat → Prop} {w w' : World}
mutual
theorem ShY.keep (hb : ∀ b, Y b → w'.heap[b]? = w.heap[b]?) (hY : ∀ b, Y b → Y' b) : ∀ (s : Sh) (v : Value), ShY Y w s v → ShY Y' w' s v
  | .mk lf tg ps ks kids, v => by
    rintro ⟨A, n, c, B, m, e, C, p, q, rfl, h1, h2, h3, h4, h5, h6, h7⟩
    refine ⟨A, n, c, B, m, e, C, p, q, rfl, h1.keepAt fun ad e _ => hb _ (h2 ad e), fun ad e => hY _ (h2 ad e), h3.keepAt fun ad e _ => hb _ (h4 ad e), fun ad e => hY _ (h4 ad e), h5, h6, ?_⟩
    rcases h7 with h7 | ⟨g, off, h7, h8, h9⟩
    · exact .inl h7
    · exact .inr ⟨g, off, h7, hY _ h8, ShYC.keep hb hY kids g off (hb g h8) h9⟩
theorem ShYC.keep (hb : ∀ b, Y b → w'.heap[b]? = w.heap[b]?) (hY : ∀ b, Y b → Y' b) : ∀ (l : List Sh) (g off : Nat), w'.heap[g]? = w.heap[g]? → ShYC Y w l g off → ShYC Y' w' l g off
  | [], _, _ => fun _ _ => trivial
  | s :: l, g, off => fun hg => by
    rintro ⟨⟨lf, tg, A, n, c, B, m, e, C, p, q, c0, c1, c2, c3, c4, h1⟩, h2⟩
    have hc : ∀ j, w'.cell? ⟨g, j, none⟩ = w.cell? ⟨g, j, none⟩ := fun j => by unfold World.cell?; simp only; rw [hg]
    exact ⟨⟨lf, tg, A, n, c, B, m, e, C, p, q, (hc _).trans c0, (hc _).trans c1, (hc _).trans c2, (hc _).trans c3, (hc _).trans c4, ShY.keep hb hY s _ h1⟩, ShYC.keep hb hY l g (off + 5) hg h2⟩
end
mutual
theorem ShY.low {lo : Nat} (hY : ∀ b, Y b → b < lo) : ∀ (s : Sh) (v : Value), ShY Y w s v → ShV lo w s v
  | .mk lf tg ps ks kids, v => by
    rintro ⟨A, n, c, B, m, e, C, p, q, rfl, h1, h2, h3, h4, h5, h6, h7⟩
    refine ⟨A, n, c, B, m, e, C, p, q, rfl, h1, fun ad e => hY _ (h2 ad e), h3, fun ad e => hY _ (h4 ad e), h5, h6, ?_⟩
    rcases h7 with h7 | ⟨g, off, h7, h8, h9⟩
    · exact .inl h7
    · exact .inr ⟨g, off, h7, hY _ h8, ShYC.low hY kids g off h9⟩
theorem ShYC.low {lo : Nat} (hY : ∀ b, Y b → b < lo) : ∀ (l : List Sh) (g off : Nat), ShYC Y w l g off → ShC lo w l g off
  | [], _, _ => fun _ => trivial
  | s :: l, g, off => by
    rintro ⟨⟨lf, tg, A, n, c, B, m, e, C, p, q, c0, c1, c2, c3, c4, h1⟩, h2⟩
    exact ⟨⟨_, _, _, _, _, c0, c1, c2, c3, c4, ShY.low hY s _ h1⟩, ShYC.low hY l g (off + 5) h2⟩
end
theorem ShYC.at_ {l : List Sh} {g off i : Nat} {s : Sh} (h : ShYC Y w l g off) (hi : l[i]? = some s) : ∃ lf tg A n c B m e C p q, w.cell? ⟨g, off + i * 5, none⟩ = some (.bool lf) ∧ w.cell? ⟨g, off + i * 5 + 1, none⟩ = some (.bool tg) ∧ w.cell? ⟨g, off + i * 5 + 2, none⟩ = some (.slice A n c) ∧ w.cell? ⟨g, off + i * 5 + 3, none⟩ = some (.slice B m e) ∧ w.cell? ⟨g, off + i * 5 + 4, none⟩ = some (.slice C p q) ∧ ShY Y w s (shv lf tg (.slice A n c) (.slice B m e) (.slice C p q)) := by
  induction l generalizing off i with
  | nil => cases hi
  | cons s0 l ih =>
    cases i with
    | zero => injection hi with hi; subst hi; simpa using h.1
    | succ i =>
      have := ih h.2 hi
      rw [show off + 5 + i * 5 = off + (i + 1) * 5 from by omega] at this
      exact this
theorem ShYC.drop {l : List Sh} {g off : Nat} (h : ShYC Y w l g off) (i : Nat) : ShYC Y w (l.drop i) g (off + i * 5) := by
  induction i generalizing l off with
  | zero => simpa using h
  | succ i ih =>
    cases l with
    | nil => simp only [List.drop_nil]; exact trivial
    | cons s l =>
      have := ih h.2
      rw [show off + 5 + i * 5 = off + (i + 1) * 5 from by omega] at this
      exact this
theorem ShYC.take {l : List Sh} {g off : Nat} (h : ShYC Y w l g off) (i : Nat) : ShYC Y w (l.take i) g off := by
  induction i generalizing l off with
  | zero => rw [List.take_zero]; exact trivial
  | succ i ih =>
    cases l with
    | nil => simp only [List.take_nil]; exact trivial
    | cons s l => exact ⟨h.1, ih h.2⟩
end
/-- A tree's five cells. -/
def ShQ (Y : Nat → Prop) (w : World) (s : Sh) (c : List Value) : Prop := ∃ lf tg A n k B m e C p q, c = [.bool lf, .bool tg, .slice A n k, .slice B m e, .slice C p q] ∧ ShY Y w s (shv lf tg (.slice A n k) (.slice B m e) (.slice C p q))
theorem ShQ.len {Y : Nat → Prop} {w : World} {s : Sh} {c : List Value} (h : ShQ Y w s c) : c.length = 5 := by obtain ⟨_, _, _, _, _, _, _, _, _, _, _, rfl, _⟩ := h; rfl
theorem ShQ.keep {Y Y' : Nat → Prop} {w w' : World} {s : Sh} {c : List Value} (h : ShQ Y w s c) (hb : ∀ b, Y b → w'.heap[b]? = w.heap[b]?) (hY : ∀ b, Y b → Y' b) : ShQ Y' w' s c := by
  obtain ⟨lf, tg, A, n, k, B, m, e, C, p, q, h1, h2⟩ := h
  exact ⟨lf, tg, A, n, k, B, m, e, C, p, q, h1, ShY.keep hb hY s _ h2⟩
theorem ShQ.one {Y : Nat → Prop} {w : World} {s : Sh} {c : List Value} (h : ShQ Y w s c) : ∀ u ∈ c, u.oneCell' = true := by
  obtain ⟨lf, tg, A, n, k, B, m, e, C, p, q, rfl, h2⟩ := h
  intro u hu
  simp at hu
  rcases hu with rfl | rfl | rfl | rfl | rfl <;> rfl
/-- Trees in a row of its own; what they are of lies in blocks of Y. -/
structure ShR (Y : Nat → Prop) (l : List Sh) (w : World) (v : Value) : Prop where
  rows : ∃ cs : List (List Value), cs.length = l.length ∧ (∀ (i : Nat) (s : Sh) (c : List Value), l[i]? = some s → cs[i]? = some c → ShQ Y w s c) ∧ w.ownsRow 0 shT 5 v l.length cs.flatten
section
variable {Y Y' : Nat → Prop} {l l2 : List Sh} {w w' : World} {v : Value} {s : Sh} {c : List Value} {g : Nat}
theorem ShR.nil (Y : Nat → Prop) (w : World) : ShR Y [] w (.slice none 0 0) := ⟨⟨[], rfl, fun i x c h => by simp at h, World.ownsRow_nil _ _ _ _⟩⟩
theorem ShR.keep (h : ShR Y l w v) (hb : ∀ b, Y b → w'.heap[b]? = w.heap[b]?) (hv : ∀ b, v.ownBlock = some b → w'.heap[b]? = w.heap[b]?) (hY : ∀ b, Y b → Y' b) : ShR Y' l w' v := by
  obtain ⟨cs, h1, h2, h3⟩ := h
  exact ⟨cs, h1, fun i x c e1 e2 => (h2 i x c e1 e2).keep hb hY, own_at h3 hv⟩
theorem ShR.shape (h : ShR Y l w v) : ∃ A c, v = .slice A l.length c ∧ (l = [] ∨ ∃ g, A = some ⟨g, 0, none⟩) := by
  obtain ⟨cs, h1, h2, h3⟩ := h
  rcases h3.2 with ⟨e, h0⟩ | ⟨g, cap, cur, e, _⟩
  · exact ⟨none, 0, by rw [h0]; exact e, .inl (List.eq_nil_of_length_eq_zero h0)⟩
  · exact ⟨_, _, e, .inr ⟨g, rfl⟩⟩
theorem ShR.lt (h : ShR Y l w v) {b : Nat} (e : v.ownBlock = some b) : b < w.heap.size := by obtain ⟨cs, h1, h2, h3⟩ := h; exact (World.ownsRow.lt h3 b e).2
theorem sh_info : (Try.prog.info? 93).map (fun i => (i.zero, i.size, i.bytes)) = some (some (.agg #[.bool false, .bool false, .slice none 0 0, .slice none 0 0, .slice none 0 0]), 5, 80) := by kernel_rfl
/-- Trees side by side, as cells. -/
theorem ShYC.list {g off : Nat} (h : ShYC Y w l g off) : ∃ cs : List (List Value), cs.length = l.length ∧ (∀ (i : Nat) (s : Sh) (c : List Value), l[i]? = some s → cs[i]? = some c → ShQ Y w s c) ∧ ∀ (j : Nat) (u : Value), cs.flatten[j]? = some u → w.cell? ⟨g, off + j, none⟩ = some u := by
  induction l generalizing off with
  | nil => exact ⟨[], rfl, fun i s c e => by simp at e, fun j u e => by simp at e⟩
  | cons s l ih =>
    obtain ⟨⟨lf, tg, A, n, c, B, m, e, C, p, q, c0, c1, c2, c3, c4, h1⟩, h2⟩ := h
    obtain ⟨cs, k1, k2, k3⟩ := ih h2
    refine ⟨[.bool lf, .bool tg, .slice A n c, .slice B m e, .slice C p q] :: cs, by simp [k1], fun i x d e1 e2 => ?_, fun j u hj => ?_⟩
    · cases i with
      | zero => simp at e1 e2; subst e1 e2; exact ⟨lf, tg, A, n, c, B, m, e, C, p, q, rfl, h1⟩
      | succ i => exact k2 i x d (by simpa using e1) (by simpa using e2)
    · rw [List.flatten_cons] at hj
      by_cases hlt : j < 5
      · rw [List.getElem?_append_left (by simpa using hlt)] at hj
        match j, hlt with
        | 0, _ => simp at hj; subst hj; exact c0
        | 1, _ => simp at hj; subst hj; exact c1
        | 2, _ => simp at hj; subst hj; exact c2
        | 3, _ => simp at hj; subst hj; exact c3
        | 4, _ => simp at hj; subst hj; exact c4
      · rw [List.getElem?_append_right (by simp; omega)] at hj
        have := k3 _ u hj
        simp only [List.length_cons, List.length_nil] at this
        rw [show off + 5 + (j - 5) = off + j from by omega] at this
        exact this
/-- Some trees more. -/
theorem ShR.push {off m k : Nat} (h : ShR Y l w v) (h2 : ShYC Y w l2 g off) (hm : m = l2.length) (hn : l.length + m ≤ 10000) (hvY : ∀ b, v.ownBlock = some b → ¬ Y b) (hYl : ∀ b, Y b → b < w.heap.size) :
    ∃ v' Z, (Builtin.append_ #[91, 91] 91 #[v, .slice (some ⟨g, off, none⟩) m k]).run Try.prog w = .ok v' Z ∧ ShR Y (l ++ l2) Z v' ∧ w.grownBy Z v.ownBlock ∧ (∀ b, v'.ownBlock = some b → v.ownBlock = some b ∨ w.heap.size ≤ b) ∧ ∃ A c, v' = .slice A (l.length + m) c := by
  obtain ⟨cs, k1, k2, k3⟩ := h
  obtain ⟨ds, j1, j2, j3⟩ := h2.list
  obtain ⟨i0, hi0, hz0, hz1, hz2⟩ := info_parts sh_info
  have hds : ∀ c ∈ ds, c.length = 5 := by
    intro c hc
    obtain ⟨i, hi, rfl⟩ := List.mem_iff_getElem.1 hc
    exact (j2 i l2[i] _ (List.getElem?_eq_getElem (by omega)) (List.getElem?_eq_getElem hi)).len
  have hone : ∀ u ∈ ds.flatten, u.oneCell' = true := by
    intro u hu
    obtain ⟨c, hc, hu⟩ := List.mem_flatten.1 hu
    obtain ⟨i, hi, rfl⟩ := List.mem_iff_getElem.1 hc
    exact (j2 i l2[i] _ (List.getElem?_eq_getElem (by omega)) (List.getElem?_eq_getElem hi)).one u hu
  obtain ⟨v', Z, q1, q2, q3, q4⟩ := run_push (w := w) 91 91 shT i0 _ 5 80 Try.underlying91 hi0 hz0 hz1 hz2 rfl (by omega) v l.length cs.flatten k3 ⟨g, off, none⟩ m k ds.flatten (by rw [flatN_len hds, j1, hm])
    (by
      intro j u hj
      have := j3 j u hj
      unfold Addr.add
      split
      · rename_i h0; subst h0; exact this
      · exact this) hone (by unfold maxLen; omega) (by omega)
  have hb : ∀ b, Y b → Z.heap[b]? = w.heap[b]? := fun b e => q3.block b (hYl b e) fun f => hvY b f.symm e
  refine ⟨v', Z, q1, ⟨cs ++ ds, by simp [k1, j1], fun i y d e1 e2 => ?_, ?_⟩, q3, q4, ?_⟩
  · by_cases hi : i < l.length
    · rw [List.getElem?_append_left hi] at e1
      rw [List.getElem?_append_left (by omega)] at e2
      exact (k2 i y d e1 e2).keep hb fun b e => e
    · rw [List.getElem?_append_right (by omega)] at e1
      rw [List.getElem?_append_right (by omega), k1] at e2
      exact (j2 _ y d e1 e2).keep hb fun b e => e
  · rw [List.flatten_append, List.length_append, ← hm]; exact q2
  · rcases q2.2 with ⟨rfl, h0⟩ | ⟨g, cap, cur, rfl, _⟩
    · exact ⟨none, 0, by rw [h0]⟩
    · exact ⟨_, _, rfl⟩
/-- The row as trees side by side. -/
theorem ShR.kids {A : Option Addr} {n c : Nat} (h : ShR Y l w (.slice A n c)) : n = l.length ∧ n ≤ c ∧ (l = [] ∨ ∃ g, A = some ⟨g, 0, none⟩ ∧ ShYC Y w l g 0) := by
  obtain ⟨cs, k1, k2, k3⟩ := h
  have hr := k3
  rcases k3.2 with ⟨e, h0⟩ | ⟨g, cap, cur, e, z1, z2, z3, _⟩
  · injection e with e1 e2 e3
    exact ⟨by omega, by omega, .inl (List.eq_nil_of_length_eq_zero h0)⟩
  · injection e with e1 e2 e3
    subst e1 e2 e3
    refine ⟨rfl, z3, .inr ⟨g, rfl, ?_⟩⟩
    have hcs : ∀ c ∈ cs, c.length = 5 := by
      intro c hc
      obtain ⟨i, hi, rfl⟩ := List.mem_iff_getElem.1 hc
      exact (k2 i l[i] _ (List.getElem?_eq_getElem (by omega)) (List.getElem?_eq_getElem hi)).len
    have key : ∀ (l : List Sh) (cs : List (List Value)) (off : Nat), cs.length = l.length → (∀ (i : Nat) (s : Sh) (c : List Value), l[i]? = some s → cs[i]? = some c → ShQ Y w s c) → (∀ (j : Nat) (u : Value), cs.flatten[j]? = some u → w.cell? ⟨g, off + j, none⟩ = some u) → ShYC Y w l g off := by
      intro l
      induction l with
      | nil => intro cs off _ _ _; exact trivial
      | cons s l ih =>
        intro cs off e1 e2 e3
        cases cs with
        | nil => cases e1
        | cons c cs =>
          obtain ⟨lf, tg, A, n, k, B, m, e, C, p, q, rfl, h2⟩ := e2 0 s c rfl rfl
          rw [List.flatten_cons] at e3
          refine ⟨⟨lf, tg, A, n, k, B, m, e, C, p, q, e3 0 _ rfl, e3 1 _ rfl, e3 2 _ rfl, e3 3 _ rfl, e3 4 _ rfl, h2⟩, ih cs (off + 5) (by simpa using e1) (fun i s c f1 f2 => e2 (i + 1) s c (by simpa using f1) (by simpa using f2)) fun j u f => ?_⟩
          have := e3 (j + 5) u (by rw [List.getElem?_append_right (by simp)]; simpa using f)
          rw [show off + 5 + j = off + (j + 5) from by omega]
          exact this
    refine key l cs 0 k1 k2 fun j u f => ?_
    have hlt : j < l.length * 5 := by
      have := (List.getElem?_eq_some_iff.1 f).1
      rw [flatN_len hcs, k1] at this; exact this
    rw [Nat.zero_add, World.ownsRow.cellAt hr j hlt]
    exact f
end
end Go.Proofs.Ytmnldlhpiapalaa
namespace Go.Proofs.Ytmnldlhpiapalaa
open Go.ChangeShapes Go.WideShapes Go.ChangeAt Go.RowKit
set_option linter.unusedVariables false
set_option linter.unusedSimpArgs false
set_option maxRecDepth 20000

section
variable {w : World}
theorem at_walk {A : Option Addr} {n c i : Nat} {zs : List Int} (h : Sk .u8 0 255 w A n zs) (hn : n ≤ 1000) (hi : i ≤ 100000) :
    Calls Try.prog 71 #[.slice A n c, .int .i64 (i : Int)] w fun e w' => ∃ z : Nat, e = .returned (.int .i64 (z : Int)) ∧ z ≤ 255 ∧ w = w' := by
  by_cases h0 : n = 0
  · have e0 : ((n : Int) == 0) = true := by rw [h0]; rfl
    clear h
    go_enter Try.func71, Try.ntmps71
    go_wp2
    go_ret
    exact ⟨0, rfl, by omega, rfl⟩
  · have hr : i % n < n := Nat.mod_lt _ (by omega)
    obtain ⟨b, off, z, rfl, hb, hz, h1, h2, hc⟩ := h.at_ hr
    have e0 : ((n : Int) == 0) = false := by simpa using h0
    have hnn : ¬ ((n : Int) = 0) := by omega
    have hpos : 0 < n := by omega
    have hm : (i : Int).tmod (n : Int) = ((i % n : Nat) : Int) := by rw [Int.tmod_eq_emod_of_nonneg (by omega)]; exact (Int.natCast_emod i n).symm
    have hm2 : (i : Int) % (n : Int) = ((i % n : Nat) : Int) := (Int.natCast_emod i n).symm
    obtain ⟨k, hk⟩ : ∃ k, i % n = k := ⟨_, rfl⟩
    rw [hk] at hr hc hm hm2
    obtain ⟨y, rfl⟩ := Int.eq_ofNat_of_zero_le h1
    have hw : IntKind.i64.wrap (y : Int) = (y : Int) := IntWalk.i64_in _ (by omega)
    have i0 : (0 : Int) ≤ (k : Int) := by omega
    have i1 : (k : Int) < (n : Int) := by omega
    clear h hz hk h0
    go_enter Try.func71, Try.ntmps71
    go_wp2
    go_ret
    exact ⟨y, rfl, by omega, rfl⟩
/-- A plan's fields. -/
abbrev planV (ks ss ps gs ts : Value) : Value := .agg #[ks, ss, ps, gs, ts]
abbrev plnT : TypeId := 90
theorem plan_box (w : World) (a b c d e : Value) : ∃ (X : World) (p : Nat), w.alloc (.cells #[a, b, c, d, e] plnT) = X ∧ w.heap.size = p ∧ Below w.heap.size w X ∧ (X.cell? ⟨p, 0, none⟩ = some a ∧ X.cell? ⟨p, 1, none⟩ = some b ∧ X.cell? ⟨p, 2, none⟩ = some c ∧ X.cell? ⟨p, 3, none⟩ = some d ∧ X.cell? ⟨p, 4, none⟩ = some e) :=
  ⟨_, _, rfl, rfl, below_new _ _, ⟨c_new rfl rfl, c_new rfl rfl, c_new rfl rfl, c_new rfl rfl, c_new rfl rfl⟩⟩
/-- Small, or not. -/
def LiW (w : World) (n0 n1 n2 n3 n4 : Nat) (e : Ending) (w' : World) : Prop := ∃ b, e = .returned (.bool b) ∧ (b = true → n0 ≤ 50 ∧ n1 ≤ 30 ∧ n2 ≤ 30 ∧ n3 ≤ 30 ∧ n4 ≤ 30) ∧ Below w.heap.size w w'
theorem light_walk (A0 A1 A2 A3 A4 : Option Addr) (n0 c0 n1 c1 n2 c2 n3 c3 n4 c4 : Nat) :
    Calls Try.prog 37 #[planV (.slice A0 n0 c0) (.slice A1 n1 c1) (.slice A2 n2 c2) (.slice A3 n3 c3) (.slice A4 n4 c4)] w (LiW w n0 n1 n2 n3 n4) := by
  obtain ⟨X, p, hX, hp, bX, x0, x1, x2, x3, x4⟩ := plan_box w (.slice A0 n0 c0) (.slice A1 n1 c1) (.slice A2 n2 c2) (.slice A3 n3 c3) (.slice A4 n4 c4)
  have HB := Lib.hid bX
  clear bX
  by_cases g0 : n0 ≤ 50
  case neg =>
    have i0 : ¬ (n0 : Int) ≤ 50 := by omega
    go_enter Try.func37, Try.ntmps37
    go_wp2_with fail
    (try rw [hX])
    go_wp2
    go_ret
    exact ⟨false, rfl, fun h => (by cases h), HB.out⟩
  have i0 : (n0 : Int) ≤ 50 := by omega
  by_cases g1 : n1 ≤ 30
  case neg =>
    have i1 : ¬ (n1 : Int) ≤ 30 := by omega
    go_enter Try.func37, Try.ntmps37
    go_wp2_with fail
    (try rw [hX])
    go_wp2
    go_ret
    exact ⟨false, rfl, fun h => (by cases h), HB.out⟩
  have i1 : (n1 : Int) ≤ 30 := by omega
  by_cases g2 : n2 ≤ 30
  case neg =>
    have i2 : ¬ (n2 : Int) ≤ 30 := by omega
    go_enter Try.func37, Try.ntmps37
    go_wp2_with fail
    (try rw [hX])
    go_wp2
    go_ret
    exact ⟨false, rfl, fun h => (by cases h), HB.out⟩
  have i2 : (n2 : Int) ≤ 30 := by omega
  by_cases g3 : n3 ≤ 30
  case neg =>
    have i3 : ¬ (n3 : Int) ≤ 30 := by omega
    go_enter Try.func37, Try.ntmps37
    go_wp2_with fail
    (try rw [hX])
    go_wp2
    go_ret
    exact ⟨false, rfl, fun h => (by cases h), HB.out⟩
  have i3 : (n3 : Int) ≤ 30 := by omega
  by_cases g4 : n4 ≤ 30
  case neg =>
    have i4 : ¬ (n4 : Int) ≤ 30 := by omega
    go_enter Try.func37, Try.ntmps37
    go_wp2_with fail
    (try rw [hX])
    go_wp2
    go_ret
    exact ⟨false, rfl, fun h => (by cases h), HB.out⟩
  have i4 : (n4 : Int) ≤ 30 := by omega
  go_enter Try.func37, Try.ntmps37
  go_wp2_with fail
  (try rw [hX])
  go_wp2
  go_ret
  exact ⟨true, rfl, fun _ => ⟨g0, g1, g2, g3, g4⟩, HB.out⟩
theorem wide_walk (b : Nat) (hb : b < 256) : Calls Try.prog 39 #[.int .u8 (b : Int)] w fun e w' => ∃ z : Nat, e = .returned (.int .i64 (z : Int)) ∧ 3 ≤ z ∧ z ≤ 8 ∧ z = 3 + b % 6 ∧ w = w' := by
  have a1 : IntKind.i64.wrap (b : Int) = (b : Int) := IntWalk.i64_in _ (by omega)
  have d1 : (b : Int).tmod 6 = ((b % 6 : Nat) : Int) := by rw [Int.tmod_eq_emod_of_nonneg (by omega)]; rfl
  have e1 : (b : Int) % 6 = ((b % 6 : Nat) : Int) := by omega
  have hr : b % 6 < 6 := Nat.mod_lt _ (by omega)
  obtain ⟨k, hk⟩ : ∃ k, b % 6 = k := ⟨_, rfl⟩
  rw [hk] at d1 e1 hr ⊢
  have hw : IntKind.i64.wrap (3 + (k : Int)) = ((3 + k : Nat) : Int) := by rw [IntWalk.i64_in _ (by omega)]; omega
  go_enter Try.func39, Try.ntmps39
  go_wp2
  go_ret
  exact ⟨3 + k, by first | rfl | (congr 2; omega), by omega, by omega, rfl, rfl⟩
end
end Go.Proofs.Ytmnldlhpiapalaa
namespace Go.Proofs.Ytmnldlhpiapalaa
open Go.ChangeShapes Go.WideShapes Go.ChangeAt Go.RowKit
set_option linter.unusedVariables false
set_option linter.unusedSimpArgs false
set_option maxRecDepth 20000

/-- A law's blocks: its variable q, its row T, its tree's Y. -/
abbrev XsP (q : Nat) (T : Value) (Y : Nat → Prop) (b : Nat) : Prop := b = q ∨ T.ownBlock = some b ∨ Y b
/-- Where the law is, in memory. -/
structure SPB (W : World) (d : Wd) (q : Nat) (Y : Nat → Prop) (sg : Sig) (x : Sh) (T : Value) (zs : List Int) (w : World) : Prop where
  mb : MB W (XsP q T Y) d 0 0 h0 o0 sg w
  var : ∃ lf tg A n k B m e C p c, Shc w q (.bool lf) (.bool tg) (.slice A n k) (.slice B m e) (.slice C p c) ∧ ShY Y w x (shv lf tg (.slice A n k) (.slice B m e) (.slice C p c))
  row : Row i6T 0 w T zs
  own : ∀ b, T.ownBlock = some b → b ≠ q ∧ ¬ Y b
  nq : ¬ Y q
  hq : W.heap.size ≤ q
  hT : ∀ b, T.ownBlock = some b → W.heap.size ≤ b
section
variable {W w w' : World} {d : Wd} {q : Nat} {Y : Nat → Prop} {sg : Sig} {x : Sh} {T : Value} {zs : List Int}
theorem SPB.below (h : SPB W d q Y sg x T zs w) (hb : Below w.heap.size w w') : SPB W d q Y sg x T zs w' := by
  obtain ⟨lf, tg, A, n, k, B, m, e, C, p, c, h1, h2⟩ := h.var
  exact ⟨h.mb.below hb, ⟨lf, tg, A, n, k, B, m, e, C, p, c, h1.below hb, ShY.keep (fun b e => hb.block b (h.mb.me.lt b (.inr (.inr (.inr e))))) (fun b e => e) _ _ h2⟩, own_at h.row fun b e => hb.block b (World.ownsRow.lt h.row b e).2, h.own, h.nq, h.hq, h.hT⟩
/-- Three numbers more. -/
theorem SPB.push {z1 z2 z3 : Int} {g : Nat} (h : SPB W d q Y sg x T zs w) (hl : zs.length ≤ 2000) (hg : w.heap.size = g) :
    ∃ A' m' c' Z, (Builtin.append_ #[29, 29] 29 #[T, .slice (some ⟨g, 0, none⟩) 3 3]).run Try.prog (w.alloc (.cells #[.int .i64 z1, .int .i64 z2, .int .i64 z3] i6T)) = .ok (.slice A' m' c') Z ∧ SPB W d q Y sg x (.slice A' m' c') (zs ++ [z1, z2, z3]) Z := by
  subst hg
  have hb := below_new w (.cells #[.int .i64 z1, .int .i64 z2, .int .i64 z3] i6T)
  have hsl : Sl (w.alloc (.cells #[.int .i64 z1, .int .i64 z2, .int .i64 z3] i6T)) (some ⟨w.heap.size, 0, none⟩) 3 3 [z1, z2, z3] := by
    refine ⟨rfl, Nat.le_refl _, (fun e => by cases e), .inr ⟨_, 0, rfl, fun i u hu => ?_⟩⟩
    rw [cell_of_row _ _ _ _ _ (0, 0) (heap_alloc_new w _), Nat.zero_add]
    match i, hu with
    | 0, hu => simp at hu; subst hu; rfl
    | 1, hu => simp at hu; subst hu; rfl
    | 2, hu => simp at hu; subst hu; rfl
  have h1 := h.below hb
  obtain ⟨A', m', c', Z, q1, q2, q3, q4⟩ := run_pushN rowK h1.row hsl (by simp; omega) (by simp)
  have hZ : ∀ b, (Value.slice A' m' c').ownBlock = some b → b < Z.heap.size := fun b e => (World.ownsRow.lt q2 b e).2
  have hne : ∀ b, b = q ∨ Y b → some b ≠ T.ownBlock := fun b e f => by
    have := h.own b f.symm
    rcases e with e | e
    · exact this.1 e
    · exact this.2 e
  have hlt : ∀ b, b = q ∨ Y b → b < (w.alloc (.cells #[.int .i64 z1, .int .i64 z2, .int .i64 z3] i6T)).heap.size := fun b e => h1.mb.me.lt b (.inr (e.imp id .inr))
  obtain ⟨lf, tg, A, n, k, B, m, e, C, p, c2, v1, v2⟩ := h1.var
  have hwsz : ∀ b, b = q ∨ Y b → b < w.heap.size := fun b e => h.mb.me.lt b (.inr (e.imp id .inr))
  refine ⟨A', m', c', Z, q1, h1.mb.kept q3 (fun b e => ⟨.inr (.inl e), h.hT b e⟩) (fun b e => ?_), ⟨lf, tg, A, n, k, B, m, e, C, p, c2, v1.at_ (q3.block q (hlt q (.inl rfl)) (hne q (.inl rfl))), ShY.keep (fun b e => q3.block b (hlt b (.inr e)) (hne b (.inr e))) (fun b e => e) _ _ v2⟩, q2, fun b e => ?_, h.nq, h.hq, fun b e => ?_⟩
  · rcases e with e | e | e
    · exact .inl (.inl e)
    · exact (q4 b e).imp (fun e => .inr (.inl e)) fun e2 => ⟨e2, hZ b e⟩
    · exact .inl (.inr (.inr e))
  · rcases q4 b e with f | f
    · exact h.own b f
    · have := hb.size
      exact ⟨fun f2 => by have := hwsz b (.inl f2); omega, fun f2 => by have := hwsz b (.inr f2); omega⟩
  · rcases q4 b e with f | f
    · exact h.hT b f
    · have := hb.size; have := h.mb.bel.size; omega
/-- Another tree in the variable. -/
abbrev put5 (w : World) (R : Nat) (x y pv kv zv : Value) : World := ((((w.setCell ⟨R, 0, none⟩ x).setCell ⟨R, 1, none⟩ y).setCell ⟨R, 2, none⟩ pv).setCell ⟨R, 3, none⟩ kv).setCell ⟨R, 4, none⟩ zv
theorem Shc.put {R : Nat} {x y pv kv zv x' y' pv' kv' zv' : Value} (h : Shc w R x' y' pv' kv' zv') : Shc (put5 w R x y pv kv zv) R x y pv kv zv := by
  unfold Shc at h
  unfold put5
  have h0 : (w.setCell ⟨R, 0, none⟩ x).heap[R]? = some (.cells #[x, y', pv', kv', zv'] shT (0, 0)) := heap_setCell_same w R 0 _ _ _ h
  generalize w.setCell ⟨R, 0, none⟩ x = w0 at h0 ⊢
  have h1 : (w0.setCell ⟨R, 1, none⟩ y).heap[R]? = some (.cells #[x, y, pv', kv', zv'] shT (0, 0)) := heap_setCell_same w0 R 1 _ _ _ h0
  generalize w0.setCell ⟨R, 1, none⟩ y = w1 at h1 ⊢
  have h2 : (w1.setCell ⟨R, 2, none⟩ pv).heap[R]? = some (.cells #[x, y, pv, kv', zv'] shT (0, 0)) := heap_setCell_same w1 R 2 _ _ _ h1
  generalize w1.setCell ⟨R, 2, none⟩ pv = w2 at h2 ⊢
  have h3 : (w2.setCell ⟨R, 3, none⟩ kv).heap[R]? = some (.cells #[x, y, pv, kv, zv'] shT (0, 0)) := heap_setCell_same w2 R 3 _ _ _ h2
  generalize w2.setCell ⟨R, 3, none⟩ kv = w3 at h3 ⊢
  exact heap_setCell_same w3 R 4 _ _ _ h3
theorem Shc.frees {R : Nat} {x y pv kv zv : Value} (h : Shc w R x y pv kv zv) : w.frozen? ⟨R, 0, none⟩ = false ∧ w.frozen? ⟨R, 1, none⟩ = false ∧ w.frozen? ⟨R, 2, none⟩ = false ∧ w.frozen? ⟨R, 3, none⟩ = false ∧ w.frozen? ⟨R, 4, none⟩ = false := ⟨frozen_of_row w R 0 _ _ h, frozen_of_row w R 1 _ _ h, frozen_of_row w R 2 _ _ h, frozen_of_row w R 3 _ _ h, frozen_of_row w R 4 _ _ h⟩
theorem put5_block (w : World) (R : Nat) (x y pv kv zv : Value) {b : Nat} (hb : b ≠ R) : (put5 w R x y pv kv zv).heap[b]? = w.heap[b]? := by
  unfold put5
  rw [heap_setCell_other _ _ b _ hb, heap_setCell_other _ _ b _ hb, heap_setCell_other _ _ b _ hb, heap_setCell_other _ _ b _ hb, heap_setCell_other _ _ b _ hb]
theorem only_put5 (w : World) (R : Nat) (x y pv kv zv : Value) : Only (· = R) w (put5 w R x y pv kv zv) :=
  ((((Only.set (· = R) w (p := ⟨R, 0, none⟩) rfl _).then (Only.set (· = R) _ (p := ⟨R, 1, none⟩) rfl _)).then (Only.set (· = R) _ (p := ⟨R, 2, none⟩) rfl _)).then (Only.set (· = R) _ (p := ⟨R, 3, none⟩) rfl _)).then (Only.set (· = R) _ (p := ⟨R, 4, none⟩) rfl _)
theorem put5_grown (w : World) (R : Nat) (x y pv kv zv : Value) : w.grownBy (put5 w R x y pv kv zv) (some R) :=
  have h := only_put5 w R x y pv kv zv
  ⟨h.os, h.tape, h.output, h.size, fun b hb hn => h.block b hb fun e => hn (by rw [e])⟩
theorem SPB.store {x2 : Sh} {lf tg : Bool} {A B C : Option Addr} {n k m e p c : Nat} (h : SPB W d q Y sg x T zs w) (h2 : ShY Y w x2 (shv lf tg (.slice A n k) (.slice B m e) (.slice C p c))) : SPB W d q Y sg x2 T zs (put5 w q (.bool lf) (.bool tg) (.slice A n k) (.slice B m e) (.slice C p c)) := by
  have hne : ∀ b, b ≠ q → (put5 w q (.bool lf) (.bool tg) (.slice A n k) (.slice B m e) (.slice C p c)).heap[b]? = w.heap[b]? := fun b hb => put5_block w q _ _ _ _ _ hb
  obtain ⟨lf', tg', A', n', k', B', m', e', C', p', c', v1, v2⟩ := h.var
  exact ⟨h.mb.kept (put5_grown w q _ _ _ _ _) (fun b e => by injection e with e; subst e; exact ⟨.inl rfl, h.hq⟩) (fun b e => .inl e), ⟨lf, tg, A, n, k, B, m, e, C, p, c, v1.put, ShY.keep (fun b e => hne b fun f => h.nq (f ▸ e)) (fun b e => e) _ _ h2⟩, own_at h.row fun b e => hne b (h.own b e).1, h.own, h.nq, h.hq, h.hT⟩
end
end Go.Proofs.Ytmnldlhpiapalaa
namespace Go.Proofs.Ytmnldlhpiapalaa
open Go.ChangeShapes Go.WideShapes Go.ChangeAt Go.RowKit
set_option linter.unusedVariables false
set_option linter.unusedSimpArgs false
set_option maxRecDepth 20000

/-- A tree as a plan makes it. -/
structure GoodS (s : Sh) : Prop where
  wf : s.wf
  small : s.small
  many : s.many ≤ 5000
  deep : s.deep ≤ 200
  ord : s.ord
  pairs : s.all.length ≤ 50
/-- What Shape answers: a tree in memory of its own. -/
def ShpW (w : World) (e : Ending) (w' : World) : Prop := ∃ s v, e = .returned v ∧ ShY (fun b => w.heap.size ≤ b ∧ b < w'.heap.size) w' s v ∧ GoodS s ∧ Below w.heap.size w w'
/-- A plan in memory. -/
structure PlanR (w : World) (v : Value) (n0 n1 n2 n3 n4 : Nat) : Prop where
  ex : ∃ A0 c0 ks A1 c1 l1 A2 c2 l2 A3 c3 l3 A4 c4 l4, v = planV (.slice A0 n0 c0) (.slice A1 n1 c1) (.slice A2 n2 c2) (.slice A3 n3 c3) (.slice A4 n4 c4) ∧ Sl w A0 n0 c0 ks ∧ Sk .u8 0 255 w A1 n1 l1 ∧ Sk .u8 0 255 w A2 n2 l2 ∧ Sk .u8 0 255 w A3 n3 l3 ∧ Sk .u8 0 255 w A4 n4 l4
theorem PlanR.below {w w' : World} {v : Value} {n0 n1 n2 n3 n4 : Nat} (h : PlanR w v n0 n1 n2 n3 n4) (hb : Below w.heap.size w w') : PlanR w' v n0 n1 n2 n3 n4 := by
  obtain ⟨A0, c0, ks, A1, c1, l1, A2, c2, l2, A3, c3, l3, A4, c4, l4, h0, h1, h2, h3, h4, h5⟩ := h
  exact ⟨A0, c0, ks, A1, c1, l1, A2, c2, l2, A3, c3, l3, A4, c4, l4, h0, h1.below hb, h2.below hb, h3.below hb, h4.below hb, h5.below hb⟩
/-- Shape's contract. -/
def ShapeC : Prop := ∀ (w : World) (v : Value) (n0 n1 n2 n3 n4 b : Nat), PlanR w v n0 n1 n2 n3 n4 → n0 ≤ 50 ∧ n1 ≤ 30 ∧ n2 ≤ 30 ∧ n3 ≤ 30 ∧ n4 ≤ 30 → 3 ≤ b ∧ b ≤ 8 → Calls Try.prog 38 #[v, .int .i64 (b : Int)] w (ShpW w)
set_option maxHeartbeats 1000000 in
theorem shWay_walk {w : World} {A B C : Option Addr} {n k m e p c : Nat} {lf tg : Bool} {ks : List Int} {key : Int} (h : Sl w B m e ks) (hm : m ≤ 1000) :
    Calls Try.prog 41 #[shv lf tg (.slice A n k) (.slice B m e) (.slice C p c), .int .i64 key] w fun e w' => e = .returned (.int .i64 (wayL ks key : Int)) ∧ Below w.heap.size w w' := by
  obtain ⟨X, b, hX, hb, bX, eX, sX⟩ := Shc.new w (.bool lf) (.bool tg) (.slice A n k) (.slice B m e) (.slice C p c)
  obtain ⟨x0, x1, x2, x3, x4⟩ := eX.cells
  have HB := Lib.hid bX
  have HB2 : Hid (Below b w X) := by rw [← hb]; exact bX
  have HK : Hid (Sl X B m e ks) := h.below bX
  have HL := Lib.hid h.len
  clear bX eX sX h
  go_enter Try.func41, Try.ntmps41
  go_wp2_with fail
  (try rw [hX]); (try rw [hb])
  go_loopg [11, 5] m (fun gk iv tv wr => ∃ j : Nat, j + gk = m ∧ iv = .int .i64 (j : Int) ∧ tv = .int .i64 ((wayL (ks.take j) key : Nat) : Int) ∧ wr = X)
  case atStart => exact ⟨0, by omega, rfl, rfl, rfl⟩
  case round =>
    obtain ⟨j, hj, rfl, rfl, rfl⟩ := hrel
    by_cases hlt : j < m
    case neg =>
      have i1 : ¬ ((j : Int) < (m : Int)) := by omega
      have e1 : ks.take j = ks := List.take_of_length_le (by have := HL.out; omega)
      rw [e1]
      go_wp2
      go_ret
      first | exact ⟨rfl, HB.out⟩ | exact ⟨rfl, HB2.out⟩
    have i1 : (j : Int) < (m : Int) := by omega
    have i0 : (0 : Int) ≤ (j : Int) := by omega
    have hkw : IntKind.i64.wrap ((j : Int) + 1) = (j : Int) + 1 := IntWalk.i64_in _ (by omega)
    have hjl : j < ks.length := by have := HL.out; omega
    obtain ⟨g, off, rfl, hg, hc⟩ := HK.out.at_ hjl
    have htk : ks.take (j + 1) = ks.take j ++ [ks[j]] := by rw [List.take_add_one, List.getElem?_eq_getElem hjl]; rfl
    have hwl := wayL_snoc (ks.take j) ks[j] key
    rw [← htk] at hwl
    have hle := wayL_le (ks.take j) key
    rw [List.length_take] at hle
    have HW := Lib.hid hwl
    clear htk hwl
    generalize ks[j] = z at *
    generalize wayL (ks.take j) key = u at *
    have hkw2 : IntKind.i64.wrap ((u : Int) + 1) = (u : Int) + 1 := IntWalk.i64_in _ (by omega)
    by_cases hz : z ≤ key
    · have HZ : Hid (wayL (ks.take (j + 1)) key = u + 1) := by show _ = _; rw [HW.out, if_pos hz]
      clear HW
      go_wp2
      go_roundg (gk - 1)
      case measure => omega
      case rel => exact ⟨j + 1, by omega, by go_num, by rw [HZ.out]; go_num, rfl⟩
    · have HZ : Hid (wayL (ks.take (j + 1)) key = u) := by show _ = _; rw [HW.out, if_neg hz]; rfl
      clear HW
      go_wp2
      go_roundg (gk - 1)
      case measure => omega
      case rel => exact ⟨j + 1, by omega, by go_num, by rw [HZ.out], rfl⟩
/-- A plan's tree in a law's variable at q. -/
def ShpV (v : World) (q : Nat) (wx : World) : Prop := ∃ s Y, (∃ lf tg A n k B m e C p c, Shc wx q (.bool lf) (.bool tg) (.slice A n k) (.slice B m e) (.slice C p c) ∧ ShY Y wx s (shv lf tg (.slice A n k) (.slice B m e) (.slice C p c))) ∧ GoodS s ∧ Below v.heap.size v wx ∧ v.heap.size ≤ q ∧ (∀ b, Y b → v.heap.size ≤ b ∧ b < wx.heap.size) ∧ ¬ Y q
theorem shY_form {Y : Nat → Prop} {w : World} {s : Sh} {v : Value} (h : ShY Y w s v) : ∃ lf tg A n k B m e C p c, v = shv lf tg (.slice A n k) (.slice B m e) (.slice C p c) := by
  obtain ⟨lf, tg, ps, ks, kids⟩ := s
  obtain ⟨A, n, c, B, m, e, C, p, q, rfl, -⟩ := h
  exact ⟨_, _, A, n, c, B, m, e, C, p, q, rfl⟩
theorem shp_end {v Z : World} {q : Nat} {Y : Nat → Prop} {s : Sh} {lf tg : Bool} {A B C : Option Addr} {n k m e p c : Nat} {x y pv kv zv : Value} (hb : Below v.heap.size v Z) (hq : Shc Z q x y pv kv zv) (hge : v.heap.size ≤ q) (hY : ShY Y Z s (shv lf tg (.slice A n k) (.slice B m e) (.slice C p c))) (hr : ∀ b, Y b → v.heap.size ≤ b ∧ b < Z.heap.size) (nq : ¬ Y q) (hg : GoodS s) : ShpV v q (put5 Z q (.bool lf) (.bool tg) (.slice A n k) (.slice B m e) (.slice C p c)) := by
  have ho := only_put5 Z q (.bool lf) (.bool tg) (.slice A n k) (.slice B m e) (.slice C p c)
  refine ⟨s, Y, ⟨lf, tg, A, n, k, B, m, e, C, p, c, hq.put, ShY.keep (fun b f => put5_block Z q _ _ _ _ _ fun f2 => nq (f2 ▸ f)) (fun b f => f) _ _ hY⟩, hg, hb.trans (ho.below (fun b f => by rw [f]; exact hge) hb.size), hge, fun b f => ⟨(hr b f).1, Nat.lt_of_lt_of_le (hr b f).2 ho.size⟩, nq⟩
/-- The world was made: what the law says ahead of the loop. -/
theorem mb_begin {v V w : World} {q M : Nat} {Y : Nat → Prop} {s : Sh} {e : Ending} (hb : Below v.heap.size v V) (hq : q < V.heap.size) (hr : ∀ b, Y b → b < V.heap.size) (h : WorldW V M 1 1 s e w) : ∃ d, e = .returned (ptr d.W) ∧ d.en = Go.Proofs.Ytmnldlhpiapalaa.mk 1 1 ∧ MB v (fun b => b = q ∨ Y b) d 0 0 h0 o0 (plantSig M 1 s) w ∧ Below V.heap.size V w := by
  obtain ⟨d, FW, rfl, h1, h2, h3, h4, h5⟩ := h
  refine ⟨d, rfl, h4, ⟨ME.none_ ⟨FW, h1, fun b e => ?_⟩, hb.trans (h3.mono hb.size)⟩, h3⟩
  have hlt : b < V.heap.size := by
    rcases e with e | e | e
    · have := hb.size; omega
    · rw [e]; exact hq
    · exact hr b e
  exact ⟨Nat.lt_of_lt_of_le hlt h3.size, fun f => by have := h2 b f; omega⟩
theorem spb_begin {v w Z : World} {d : Wd} {q g : Nat} {Y : Nat → Prop} {sg : Sig} {x : Sh} {z1 z2 z3 : Int} (h : MB v (fun b => b = q ∨ Y b) d 0 0 h0 o0 sg w) (hv : ∃ lf tg A n k B m e C p c, Shc w q (.bool lf) (.bool tg) (.slice A n k) (.slice B m e) (.slice C p c) ∧ ShY Y w x (shv lf tg (.slice A n k) (.slice B m e) (.slice C p c))) (nq : ¬ Y q) (hq : v.heap.size ≤ q) (hZ : w.alloc (.cells #[.int .i64 z1, .int .i64 z2, .int .i64 z3] i6T) = Z) (hg : w.heap.size = g) : SPB v d q Y sg x (.slice (some ⟨g, 0, none⟩) 3 3) [z1, z2, z3] Z := by
  subst hZ hg
  have hb := below_new w (.cells #[.int .i64 z1, .int .i64 z2, .int .i64 z3] i6T)
  have hlt : ∀ b, b = q ∨ Y b → b < w.heap.size := fun b e => h.me.lt b (.inr e)
  have hs : (w.alloc (.cells #[.int .i64 z1, .int .i64 z2, .int .i64 z3] i6T)).heap.size = w.heap.size + 1 := by simp
  obtain ⟨lf, tg, A, n, k, B, m, e, C, p, c, v1, v2⟩ := hv
  refine ⟨h.more hb (fun b f => ?_) (.inl rfl), ⟨lf, tg, A, n, k, B, m, e, C, p, c, v1.below hb, ShY.keep (fun b f => hb.block b (hlt b (.inr f))) (fun b f => f) _ _ v2⟩, ?_, fun b f => ?_, nq, hq, fun b f => ?_⟩
  · rcases f with f | f | f
    · exact .inl (.inl f)
    · have f : (w.heap.size : Nat) = b := Option.some.inj f
      exact .inr ⟨by omega, by omega⟩
    · exact .inl (.inr f)
  · exact ⟨rfl, .inr ⟨w.heap.size, 3, _, rfl, Nat.zero_le _, heap_alloc_new w _, Nat.le_refl _, (by show 3 ≤ maxLen; unfold maxLen; omega), rfl, rfl⟩⟩
  · have f : (w.heap.size : Nat) = b := Option.some.inj f
    exact ⟨fun f2 => by have := hlt b (.inl f2); omega, fun f2 => by have := hlt b (.inr f2); omega⟩
  · have f : (w.heap.size : Nat) = b := Option.some.inj f
    have := h.bel.size; omega
theorem SPB.wayEn {v w : World} {d : Wd} {X : Nat → Prop} {M : Nat} {s : Sh} (h : MB v X d 0 0 h0 o0 (plantSig M 1 s) w) (hs : s.many ≤ 50000) : ∀ q, Calls Try.prog 21 #[ptr d.A, .int .i64 (Go.Proofs.Ytmnldlhpiapalaa.mk 1 1), .int .i64 0] (w.drewN q) fun e w' => e = .returned (.int .i64 (refS 2 s)) ∧ ∃ t, w' = w.drewN t := by
  obtain ⟨FW, k1⟩ := h.ws
  intro q
  have := nxW_way (k1.below (below_drewN (Below.refl _ w) q)) (ok_plant hs) hit_entry 0
  rw [show wayAt { entryPa with ws := [rootR s] } 0 = refS 2 s from by unfold wayAt hasB; simp [root_ref]] at this
  exact this.mono fun e w' ⟨h1, h2⟩ => ⟨h1, q, h2.symm⟩
theorem SPB.open_ {W w : World} {d : Wd} {q : Nat} {Y : Nat → Prop} {sg : Sig} {T : Value} {zs : List Int} {lf tg : Bool} {ps : List (Int × Int)} {ks : List Int} {kids : List Sh} (h : SPB W d q Y sg (.mk lf tg ps ks kids) T zs w) : ∃ A n k B m e C p c, Shc w q (.bool lf) (.bool tg) (.slice A n k) (.slice B m e) (.slice C p c) ∧ n = ps.length ∧ m = ks.length ∧ p = kids.length ∧ Sl w B m e ks ∧ (kids = [] ∨ ∃ g off, C = some ⟨g, off, none⟩ ∧ Y g ∧ ShYC Y w kids g off) := by
  obtain ⟨lf', tg', A, n, k, B, m, e, C, p, c, v1, v2⟩ := h.var
  obtain ⟨A', n', c', B', m', e', C', p', q', hv, h1, h2, h3, h4, h5, h6, h7⟩ := v2
  injection hv with hv
  injection hv with hv
  injection hv with a0 hv
  injection hv with a1 hv
  injection hv with a2 hv
  injection hv with a3 hv
  injection hv with a4 hv
  injection a0 with a0
  injection a1 with a1
  injection a2 with b1 b2 b3
  injection a3 with c1 c2 c3
  injection a4 with d1 d2 d3
  subst a0 a1 b1 b2 b3 c1 c2 c3 d1 d2 d3
  exact ⟨A, n, k, B, m, e, C, p, c, v1, h1.len, h3.len, h5, h3, h7⟩
/-- A node's way, as it stands. -/
theorem SPB.way {W w : World} {d : Wd} {q i M : Nat} {Y : Nat → Prop} {s x x' : Sh} {T : Value} {zs : List Int} (h : SPB W d q Y (plantSig M 1 s) x' T zs w) (hs : Sg s i x) (hm : s.many ≤ 50000) {k z : Int} (hz : wayAt (paS x i) k = z) : Calls Try.prog 21 #[ptr d.A, .int .i64 (refS i x), .int .i64 k] w fun e w' => e = .returned (.int .i64 z) ∧ w = w' := by
  obtain ⟨FW, k1⟩ := h.mb.ws
  rw [← hz]
  exact nxW_way k1 (ok_plant hm) (hit_plant hs hm) k
theorem SPB.kid {W w : World} {d : Wd} {q : Nat} {Y : Nat → Prop} {sg : Sig} {T : Value} {zs : List Int} {x x2 : Sh} {kids : List Sh} {g off k : Nat} (h : SPB W d q Y sg x T zs w) (hc : ShYC Y w kids g off) (hk : kids[k]? = some x2) : ∃ lf tg A n c B m e C p c2, w.cell? ⟨g, off + k * 5, none⟩ = some (.bool lf) ∧ w.cell? ⟨g, off + k * 5 + 1, none⟩ = some (.bool tg) ∧ w.cell? ⟨g, off + k * 5 + 2, none⟩ = some (.slice A n c) ∧ w.cell? ⟨g, off + k * 5 + 3, none⟩ = some (.slice B m e) ∧ w.cell? ⟨g, off + k * 5 + 4, none⟩ = some (.slice C p c2) ∧ SPB W d q Y sg x2 T zs (put5 w q (.bool lf) (.bool tg) (.slice A n c) (.slice B m e) (.slice C p c2)) := by
  obtain ⟨lf, tg, A, n, c, B, m, e, C, p, c2, e0, e1, e2, e3, e4, e5⟩ := hc.at_ hk
  exact ⟨lf, tg, A, n, c, B, m, e, C, p, c2, e0, e1, e2, e3, e4, h.store e5⟩
mutual
theorem deep_many : ∀ (s : Sh), s.deep + 1 ≤ s.many
  | .mk lf tg ps ks kids => by
    have := deep_manyL kids
    show Sh.deepL kids + 1 ≤ Sh.manyL kids + 1
    omega
theorem deep_manyL : ∀ (l : List Sh), Sh.deepL l ≤ Sh.manyL l
  | [] => Nat.le_refl _
  | s :: l => by
    have h1 := deep_many s
    have h2 := deep_manyL l
    show max (s.deep + 1) (Sh.deepL l) ≤ s.many + Sh.manyL l
    omega
end
/-- The thread, from its start to its end; what the law says is kept. -/
def SPE (W : World) (d : Wd) (T : Value) (zs : List Int) (M : Nat) (s : Sh) (w : World) : Prop := (∃ X n hs os Tn, MB W X d n Tn hs os (plantSig M 1 s) w) ∧ Row i6T 0 w T zs
theorem spb_walker {W w : World} {d : Wd} {q M : Nat} {Y : Nat → Prop} {s x : Sh} {T : Value} {zs : List Int} {key : Int} (h : SPB W d q Y (plantSig M 1 s) x T zs w) (hg : GoodS s) (hen : d.en = m11) (hM : M = 2 + s.many) :
    Calls Try.prog 42 #[ptr d.W, .int .i64 key] w fun e w' => ∃ a b, e = .returned (ptr a) ∧ MB W (fun p => XsP q T Y p ∨ p = b) d 1 0 (upd h0 0 ⟨a, 0, walkF, #[ptr b], tW (ndsT s) (rkT s) key (s.deep + 2) m11 [], SkI (ndsT s) (rkT s) 1 M⟩) (upd o0 0 (.run (tW (ndsT s) (rkT s) key (s.deep + 2) m11 []))) (plantSig M 1 s) w' ∧ Below w.heap.size w w' := by
  have hd := deep_many s
  have h1 := hg.many
  have h2 := hg.deep
  have := h.mb.walker (nds := ndsT s) (rk := rkT s) (M := 1) (mo := M) (D := s.deep + 1) (key := key) (nds_ok hg.wf hg.small) (by omega) (by omega) (by omega) (by rw [hen]; exact ok1_plant (by omega))
  rw [hen] at this
  exact this
theorem spb_alone {W w : World} {d : Wd} {q M a b N : Nat} {Y : Nat → Prop} {s : Sh} {T : Value} {zs : List Int} {key : Int} {full : List Sp} (h : MB W (fun p => XsP q T Y p ∨ p = b) d 1 0 (upd h0 0 ⟨a, 0, walkF, #[ptr b], tW (ndsT s) (rkT s) key (s.deep + 2) m11 [], SkI (ndsT s) (rkT s) 1 M⟩) (upd o0 0 (.run (tW (ndsT s) (rkT s) key (s.deep + 2) m11 []))) (plantSig M 1 s) w) (hr : Row i6T 0 w T zs) (hg : GoodS s) (hp : pathS (ndsT s) key (plantSig M 1 s) (s.deep + 2) m11 = full) (hl : full.length = N + 1) (hN : 1 ≤ N ∧ N ≤ 300) :
    Calls Try.prog 15 #[ptr a] w fun e w' => ∃ A m c, e = .returned (.tuple #[.slice A m c, .int .i64 (N : Int), .bool true]) ∧ Row i6T w.heap.size w' (.slice A m c) (flatS full) ∧ SPE W d T zs M s w' := by
  have h1 := hg.many
  have := h.aloneW (i := 0) (K := flatS) (r := m11) (f := s.deep + 1) (acc := []) (key := key) (v := flatS full) (k := N) (N := N) (kz := (N : Int)) (by omega) (upd_at ..) (by rw [upd_at]) (ski_plant hg.wf hg.small (by omega)) (fit_plant hg.wf hg.small (by omega)) (ok1_plant (by omega)) (by rw [hp]; rfl) (by rw [hp, hl]; rfl) (Nat.le_refl _) (by omega) (by rw [flatS_len, hl]; omega) (by rw [Nat.max_eq_left hN.1])
  rw [upd_at] at this
  refine this.mono ?_
  rintro e w' ⟨A, m, c, rfl, k1, k2, k3⟩
  exact ⟨A, m, c, rfl, k1, ⟨_, _, _, _, _, k2⟩, own_at hr fun b f => k3.block b (.inr (.inl (.inr (.inl f))))⟩
theorem SPE.faults {W w : World} {d : Wd} {T : Value} {zs : List Int} {M : Nat} {s : Sh} (h : SPE W d T zs M s w) : Calls Try.prog 22 #[ptr d.A] w fun e w' => e = .returned (.int .i64 0) ∧ w = w' := by
  obtain ⟨⟨X, n, hs, os, Tn, hm⟩, -⟩ := h
  obtain ⟨FW, k⟩ := hm.ws
  exact nxW_faults k
end Go.Proofs.Ytmnldlhpiapalaa
