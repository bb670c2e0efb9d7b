/-
  The end of a way: the leaf where a key belongs, and the node above it.
-/
import Derived.Test.YtmnldlhpiapalaaPh
import Derived.Test.YtmnldlhpiapalaaPk
namespace Go.Proofs.Ytmnldlhpiapalaa
open Go.ChangeShapes Go.WideShapes Go.ChangeAt Go.RowKit
set_option linter.unusedVariables false
set_option linter.unusedSimpArgs false
set_option maxRecDepth 20000

section
variable {s x : Sh} {i m : Nat} {key : Int}
theorem nds_asc (hw : s.wf) (hs : s.small) (ho : s.ord) : ∀ z ∈ ndsT s, Asc z.2.ps := by
  intro z hz
  rcases List.mem_cons.1 hz with rfl | hz
  · exact List.Pairwise.nil
  · obtain ⟨j, p, h1, rfl⟩ := tab_mem hz
    obtain ⟨i, x, ⟨h3, h4⟩, h5⟩ := pas_from (fun i x => Sg s i x ∧ x.ord) (fun i lf tg ps ks kids k x h hk => ⟨h.1.kid hk, ordL_mem h.2.2.2.2 (List.mem_of_getElem? hk)⟩) s 2 ⟨⟨Seg.root s, hw, hs⟩, ho⟩ j p h1
    have h6 := h3.seg.at_
    have h7 := many_pos x
    rw [show i + x.many - 1 - 2 = j from by omega, h1] at h6
    have h8 := h6.2.1
    injection h8 with h8
    subst h8
    obtain ⟨lf, tg, ps, ks, kids⟩ := x
    exact h4.2.1
theorem val_mem {l : List (Int × Int)} (ha : Asc l) {p : Int × Int} (hp : p ∈ l) : valL l p.1 = p.2 := by
  unfold valL
  induction l with
  | nil => cases hp
  | cons a l ih =>
    unfold getL
    rcases List.mem_cons.1 hp with rfl | hp
    · rw [if_neg (by omega), if_pos rfl]; rfl
    · have := (List.pairwise_cons.1 ha).1 p hp
      rw [if_pos this]
      exact ih ha.tail hp
/-- A pair lies where its key's way leads. -/
theorem way_mem {tg : Bool} {ps : List (Int × Int)} {ks : List Int} {kids : List Sh} {x : Sh} (h : (Sh.mk false tg ps ks kids).ord) (ha : Asc1 ks) (hl : ks.length + 1 = kids.length) (hk : kids[wayL ks key]? = some x) : ∀ q ∈ (Sh.mk false tg ps ks kids).all, q.1 = key → q ∈ x.all := by
  obtain ⟨h1, -, h3, -⟩ := h
  have h1 := h1 rfl
  subst h1
  obtain ⟨w1, w2⟩ := way_split ha key
  intro q hq e
  have hq : q ∈ Sh.allL kids := hq
  obtain ⟨m, t, ht, hqt⟩ := allL_mem hq
  have hwl := wayL_le ks key
  rcases Nat.lt_trichotomy m (wayL ks key) with f | f | f
  · have hj : wayL ks key - 1 < ks.length := by omega
    have g1 := w1 _ hj (by omega)
    have g2 := (h3 _ m _ t (List.getElem?_eq_getElem hj) ht q hqt).1 (by omega)
    omega
  · subst f
    rw [hk] at ht
    injection ht with ht
    rw [ht]; exact hqt
  · have hm2 := (List.getElem?_eq_some_iff.1 ht).1
    have hj : wayL ks key < ks.length := by omega
    have g1 := w2 _ hj (Nat.le_refl _)
    have g2 := (h3 _ m _ t (List.getElem?_eq_getElem hj) ht q hqt).2 (by omega)
    omega
theorem path_down (hs : s.many ≤ 50000) : ∀ (f i : Nat) (x : Sh), Sg s i x → x.ord → x.deep ≤ f → ∃ (l : List Sp) (x1 : Sp) (i1 : Nat) (p1 : Pa), pathS (ndsT s) key (plantSig m 1 s) (f + 1) (refS i x) = l ++ [x1] ∧ l.length ≤ f ∧ (plantSig m 1 s).ar.hit x1.rf = some (i1, p1) ∧ p1.nd.inn = false ∧ wantL x1.nd.ps key = wantL x.all key ∧ (∀ q ∈ x.all, q.1 = key → valL x1.nd.ps key = q.2) ∧ ((l = [] ∧ x1.rf = refS i x) ∨ ∃ (l0 : List Sp) (x0 : Sp) (i0 : Nat) (p0 : Pa), l = l0 ++ [x0] ∧ (plantSig m 1 s).ar.hit x0.rf = some (i0, p0) ∧ p0.nd.inn = true ∧ wayAt p0 x0.wy = x1.rf) := by
  intro f
  induction f with
  | zero =>
    intro i x h ho hd
    obtain ⟨lf, tg, ps, ks, kids⟩ := x
    have hlf : lf = true := by
      rcases h.wf.1 with ⟨e, -⟩ | ⟨-, e⟩
      · exact e
      · have hd : Sh.deepL kids ≤ 0 := hd
        cases kids with
        | nil => simp at e
        | cons a l => simp only [Sh.deepL] at hd; omega
    subst hlf
    have hk : kids = [] := by
      rcases h.wf.1 with ⟨-, e, -⟩ | ⟨e, -⟩
      · exact e
      · cases e
    subst hk
    refine ⟨[], _, _, _, leaf_here h hs, Nat.le_refl _, hit_plant h hs, rfl, ?_, ?_, .inl ⟨rfl, rfl⟩⟩
    · show wantL ps key = wantL (ps ++ []) key
      rw [List.append_nil]
    · intro q hq e
      have hq : q ∈ ps ++ [] := hq
      rw [List.append_nil] at hq
      rw [← e]; exact val_mem ho.2.1 hq
  | succ f ih =>
    intro i x h ho hd
    obtain ⟨lf, tg, ps, ks, kids⟩ := x
    cases lf with
    | true =>
      have hk : kids = [] := by
        rcases h.wf.1 with ⟨-, e, -⟩ | ⟨e, -⟩
        · exact e
        · cases e
      subst hk
      refine ⟨[], _, _, _, leaf_here h hs, Nat.zero_le _, hit_plant h hs, rfl, ?_, ?_, .inl ⟨rfl, rfl⟩⟩
      · show wantL ps key = wantL (ps ++ []) key
        rw [List.append_nil]
      · intro q hq e
        have hq : q ∈ ps ++ [] := hq
        rw [List.append_nil] at hq
        rw [← e]; exact val_mem ho.2.1 hq
    | false =>
      obtain ⟨k, x', hk, hkw, hwy, hwa, hp⟩ := step_down (key := key) (m := m) h hs (f := f + 1)
      have hl : ks.length + 1 = kids.length := by
        rcases h.wf.1 with ⟨e, -⟩ | ⟨-, e⟩
        · cases e
        · exact e
      have hd2 : x'.deep < Sh.deepL kids := deep_lt (List.mem_of_getElem? hk)
      have hd : Sh.deepL kids ≤ f + 1 := hd
      obtain ⟨l, x1, i1, p1, e1, e2, e3, e4, e5, e5', e6⟩ := ih _ x' (h.kid hk) (ordL_mem ho.2.2.2 (List.mem_of_getElem? hk)) (by omega)
      rw [e1] at hp
      refine ⟨⟨refS i (.mk false tg ps ks kids), ndS (.mk false tg ps ks kids) i, (k : Int)⟩ :: l, x1, i1, p1, hp, by simp; omega, e3, e4, ?_, fun q hq e => e5' q (way_mem ho h.wf.2.1 hl (by rw [← hkw]; exact hk) q hq e) e, .inr ?_⟩
      · rw [e5]; exact (want_way ho h.wf.2.1 hl (by rw [← hkw]; exact hk)).symm
      · rcases e6 with ⟨rfl, e7⟩ | ⟨l0, x0, i0, p0, rfl, e8, e9, e10⟩
        · exact ⟨[], _, _, _, rfl, hit_plant h hs, rfl, by rw [e7]; exact hwa⟩
        · exact ⟨_ :: l0, x0, i0, p0, rfl, e8, e9, e10⟩
theorem path_last (hg : GoodS s) : ∃ (l0 : List Sp) (x0 x1 : Sp) (i0 i1 : Nat) (p0 p1 : Pa), pathS (ndsT s) key (plantSig m 1 s) (s.deep + 2) m11 = l0 ++ [x0, x1] ∧ l0.length ≤ s.deep ∧ (plantSig m 1 s).ar.hit x0.rf = some (i0, p0) ∧ p0.nd.inn = true ∧ wayAt p0 x0.wy = x1.rf ∧ (plantSig m 1 s).ar.hit x1.rf = some (i1, p1) ∧ p1.nd.inn = false ∧ wantL x1.nd.ps key = wantL s.all key ∧ ∀ q ∈ s.all, q.1 = key → valL x1.nd.ps key = q.2 := by
  have hs : s.many ≤ 50000 := by have := hg.many; omega
  obtain ⟨l, x1, i1, p1, e1, e2, e3, e4, e5, e5', e6⟩ := path_down (key := key) (m := m) hs s.deep 2 s ⟨Seg.root s, hg.wf, hg.small⟩ hg.ord (Nat.le_refl _)
  have he := entry_here (key := key) (m := m) hs (f := s.deep + 1)
  rw [e1] at he
  rcases e6 with ⟨rfl, e7⟩ | ⟨l0, x0, i0, p0, rfl, e8, e9, e10⟩
  · refine ⟨[], _, x1, _, i1, _, p1, he, Nat.zero_le _, hit_entry, rfl, ?_, e3, e4, e5, e5'⟩
    rw [e7]
    show wayAt { entryPa with ws := [rootR s] } 0 = refS 2 s
    unfold wayAt hasB
    simp [root_ref]
  · refine ⟨⟨m11, entryNd, 0⟩ :: l0, x0, x1, i0, i1, p0, p1, ?_, ?_, e8, e9, e10, e3, e4, e5, e5'⟩
    · rw [he]; simp
    · simp at e2 ⊢; omega
end
end Go.Proofs.Ytmnldlhpiapalaa
