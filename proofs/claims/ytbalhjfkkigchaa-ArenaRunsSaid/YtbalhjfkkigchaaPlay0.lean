/-
  Two arenas as plain data: the program's and the document's, act by act.
-/
import Derived.Test.YtbalhjfkkigchaaDoc3
namespace Go.Proofs.Ytbalhjfkkigchaa
open Go.RowKit
set_option linter.unusedVariables false
set_option maxRecDepth 20000

theorem usedN_cons (p : Pa) (l : List Pa) : usedN (p :: l) = usedN l + if p.used then 1 else 0 := by
  unfold usedN; cases h : p.used <;> simp [h]
theorem usedN_set (l : List Pa) (i : Nat) (p p' : Pa) (h : l[i]? = some p) : usedN (l.set i p') + (if p.used then 1 else 0) = usedN l + if p'.used then 1 else 0 := by
  induction l generalizing i with
  | nil => simp at h
  | cons q l ih =>
    cases i with
    | zero =>
      simp at h
      subst h
      simp only [List.set_cons_zero, usedN_cons]
      omega
    | succ i =>
      simp at h
      simp only [List.set_cons_succ, usedN_cons]
      have := ih i h
      omega

/-- The document's arena holds what the program's does, of the places that are used. -/
structure Rel (S D : As) : Prop where
  most : S.most = D.most
  flt : S.flt = D.flt
  fr : S.fr = D.fr
  len : S.pls.length = D.pls.length
  at_ : ∀ (i : Nat) (p q : Pa), S.pls[i]? = some p → D.pls[i]? = some q → p.used = q.used ∧ p.cnt = q.cnt ∧ (p.used = true → p = q)
structure Good (S : As) : Prop where
  nd : S.fr.Nodup
  un : ∀ i ∈ S.fr, ∃ p, S.pls[i]? = some p ∧ p.used = false
  cnt : usedN S.pls + S.fr.length = S.pls.length
structure Bd (k : Nat) (S : As) : Prop where
  len : S.pls.length ≤ k
  cnt : ∀ p ∈ S.pls, p.cnt ≤ k
  flt : S.flt ≤ k
  fr : S.fr.length ≤ k
structure Inv (k : Nat) (S D : As) : Prop where
  rel : Rel S D
  good : Good S
  bd : Bd k S
theorem Inv.okS {k : Nat} {S D : As} (h : Inv k S D) (hk : k ≤ 70000) : Ok S := ⟨by have := h.bd.len; omega, fun p hp => by have := h.bd.cnt p hp; omega, by have := h.bd.flt; omega, by have := h.bd.fr; omega⟩
theorem Inv.q {k : Nat} {S D : As} (h : Inv k S D) {i : Nat} {p : Pa} (hp : S.pls[i]? = some p) : ∃ q, D.pls[i]? = some q := by
  have hl : i < D.pls.length := by rw [← h.rel.len]; exact (List.getElem?_eq_some_iff.1 hp).1
  exact ⟨_, List.getElem?_eq_getElem hl⟩
theorem Inv.p {k : Nat} {S D : As} (h : Inv k S D) {i : Nat} {q : Pa} (hq : D.pls[i]? = some q) : ∃ p, S.pls[i]? = some p := by
  have hl : i < S.pls.length := by rw [h.rel.len]; exact (List.getElem?_eq_some_iff.1 hq).1
  exact ⟨_, List.getElem?_eq_getElem hl⟩
theorem Inv.okD {k : Nat} {S D : As} (h : Inv k S D) (hk : k ≤ 70000) : Ok D := by
  refine ⟨by have := h.bd.len; have := h.rel.len; omega, fun q hq => ?_, by have := h.bd.flt; have := h.rel.flt; omega, by have := h.bd.fr; rw [← h.rel.fr]; omega⟩
  obtain ⟨i, hi⟩ := List.getElem?_of_mem hq
  obtain ⟨p, hp⟩ := h.p hi
  have := h.bd.cnt p (List.mem_of_getElem? hp)
  have := (h.rel.at_ i p q hp hi).2.1
  omega
theorem Inv.hit {k : Nat} {S D : As} (h : Inv k S D) {r : Int} {i : Nat} : Hit S r i ↔ Hit D r i := by
  constructor
  · rintro ⟨p, hp, hu, hm⟩
    obtain ⟨q, hq⟩ := h.q hp
    obtain ⟨h1, h2, h3⟩ := h.rel.at_ i p q hp hq
    exact ⟨q, hq, by rw [← h1]; exact hu, by rw [← h2]; exact hm⟩
  · rintro ⟨q, hq, hu, hm⟩
    obtain ⟨p, hp⟩ := h.p hq
    obtain ⟨h1, h2, h3⟩ := h.rel.at_ i p q hp hq
    exact ⟨p, hp, by rw [h1]; exact hu, by rw [h2]; exact hm⟩
/-- The place of a right reference is the same in both. -/
theorem inv_both {k : Nat} {S D : As} (h : Inv k S D) {r : Int} {i : Nat} (hh : Hit D r i) : ∃ p, S.pls[i]? = some p ∧ D.pls[i]? = some p ∧ p.used = true ∧ mk i p.cnt = r := by
  obtain ⟨p, hp, hu, hm⟩ := h.hit.2 hh
  obtain ⟨q, hq⟩ := h.q hp
  have e := (h.rel.at_ i p q hp hq).2.2 hu
  subst e
  exact ⟨p, hp, hq, hu, hm⟩
theorem Inv.used {k : Nat} {S D : As} (h : Inv k S D) : (S.pls.length : Int) - (S.fr.length : Int) = ((usedN D.pls : Nat) : Int) := by
  have hc := h.good.cnt
  have : usedN S.pls = usedN D.pls := by
    have h2 := h.rel.len
    have h3 := h.rel.at_
    clear h hc
    generalize S.pls = A at *
    generalize D.pls = B at *
    induction A generalizing B with
    | nil => cases B with
      | nil => rfl
      | cons b B => simp at h2
    | cons a A ih =>
      cases B with
      | nil => simp at h2
      | cons b B =>
        rw [usedN_cons, usedN_cons, ih B (by simpa using h2) (fun i p q hp hq => h3 (i + 1) p q (by simpa using hp) (by simpa using hq)), (h3 0 a b rfl rfl).1]
  omega
theorem Inv.new (m : Nat) : Inv 0 (As.new m) (As.new m) :=
  ⟨⟨rfl, rfl, rfl, rfl, fun i p q hp hq => by simp [As.new] at hp⟩, ⟨List.nodup_nil, fun i hi => by simp [As.new] at hi, rfl⟩, ⟨by simp [As.new], fun p hp => by simp [As.new] at hp, by simp [As.new], by simp [As.new]⟩⟩
theorem Inv.more {k k' : Nat} {S D : As} (h : Inv k S D) (hk : k ≤ k') : Inv k' S D :=
  ⟨h.rel, h.good, ⟨by have := h.bd.len; omega, fun p hp => by have := h.bd.cnt p hp; omega, by have := h.bd.flt; omega, by have := h.bd.fr; omega⟩⟩
theorem Inv.fault {k : Nat} {S D : As} (h : Inv k S D) : Inv (k + 1) S.fault D.fault :=
  ⟨⟨h.rel.most, by simp [As.fault, h.rel.flt], h.rel.fr, h.rel.len, h.rel.at_⟩, ⟨h.good.nd, h.good.un, h.good.cnt⟩, ⟨by have := h.bd.len; simp [As.fault]; omega, fun p hp => by have := h.bd.cnt p hp; omega, by have := h.bd.flt; simp [As.fault]; omega, by have := h.bd.fr; simp [As.fault]; omega⟩⟩
theorem mem_set {l : List Pa} {i : Nat} {p x : Pa} (h : x ∈ l.set i p) : x ∈ l ∨ x = p := List.mem_or_eq_of_mem_set h
/-- A used place is another one now, in both; it stays used. -/
theorem Inv.set {k : Nat} {S D : As} (h : Inv k S D) {i : Nat} {p p' : Pa} (hp : S.pls[i]? = some p) (hu : p.used = true) (hu' : p'.used = true) (hc : p'.cnt = p.cnt) : Inv (k + 1) { S with pls := S.pls.set i p' } { D with pls := D.pls.set i p' } := by
  have hil : i < S.pls.length := (List.getElem?_eq_some_iff.1 hp).1
  refine ⟨⟨h.rel.most, h.rel.flt, h.rel.fr, by simp [h.rel.len], fun j a b ha hb => ?_⟩, ⟨h.good.nd, fun j hj => ?_, ?_⟩, ⟨by have := h.bd.len; simp; omega, fun x hx => ?_, by have := h.bd.flt; simp; omega, by have := h.bd.fr; simp; omega⟩⟩
  · simp only [List.getElem?_set] at ha hb
    by_cases e : i = j
    · subst e
      rw [if_pos rfl, if_pos hil] at ha
      rw [if_pos rfl, if_pos (by rw [← h.rel.len]; exact hil)] at hb
      injection ha with ha; injection hb with hb
      subst ha; subst hb
      exact ⟨rfl, rfl, fun _ => rfl⟩
    · rw [if_neg e] at ha hb
      exact h.rel.at_ j a b ha hb
  · obtain ⟨a, ha, hau⟩ := h.good.un j hj
    have e : i ≠ j := fun e => by subst e; rw [hp] at ha; injection ha with ha; subst ha; rw [hu] at hau; cases hau
    exact ⟨a, by simp only; rw [List.getElem?_set_ne e]; exact ha, hau⟩
  · have := usedN_set S.pls i p p' hp
    rw [hu, hu'] at this
    have h2 := h.good.cnt
    simp at this ⊢
    omega
  · rcases mem_set hx with hx | rfl
    · have := h.bd.cnt x hx; omega
    · have := h.bd.cnt p (List.mem_of_getElem? hp); omega
/-- A place is freed, in both. -/
theorem Inv.free {k : Nat} {S D : As} (h : Inv k S D) {i : Nat} {p : Pa} (hp : S.pls[i]? = some p) (hu : p.used = true) : Inv (k + 1) (S.free i p) { D with pls := D.pls.set i { p with used := false }, fr := D.fr ++ [i] } := by
  have hil : i < S.pls.length := (List.getElem?_eq_some_iff.1 hp).1
  refine ⟨⟨h.rel.most, h.rel.flt, by simp [As.free, h.rel.fr], by simp [As.free, h.rel.len], fun j a b ha hb => ?_⟩, ⟨?_, fun j hj => ?_, ?_⟩, ⟨by have := h.bd.len; simp [As.free]; omega, fun x hx => ?_, by have := h.bd.flt; simp [As.free]; omega, by have := h.bd.fr; simp [As.free]; omega⟩⟩
  · simp only [As.free, List.getElem?_set] at ha hb
    by_cases e : i = j
    · subst e
      rw [if_pos rfl, if_pos hil] at ha
      rw [if_pos rfl, if_pos (by rw [← h.rel.len]; exact hil)] at hb
      injection ha with ha; injection hb with hb
      subst ha; subst hb
      exact ⟨rfl, rfl, fun e => by cases e⟩
    · rw [if_neg e] at ha hb
      exact h.rel.at_ j a b ha hb
  · simp only [As.free]
    rw [List.nodup_append]
    refine ⟨h.good.nd, by simp, fun x hx y hy => ?_⟩
    simp at hy
    subst hy
    rintro rfl
    obtain ⟨a, ha, hau⟩ := h.good.un x hx
    rw [hp] at ha; injection ha with ha; subst ha; rw [hu] at hau; cases hau
  · simp only [As.free, List.mem_append, List.mem_singleton] at hj
    by_cases e : i = j
    · subst e
      exact ⟨Pa.gone p.cnt, by simp only [As.free]; rw [List.getElem?_set_self hil], rfl⟩
    · obtain ⟨a, ha, hau⟩ := h.good.un j (hj.resolve_right fun e2 => e e2.symm)
      exact ⟨a, by simp only [As.free]; rw [List.getElem?_set_ne e]; exact ha, hau⟩
  · have := usedN_set S.pls i p (Pa.gone p.cnt) hp
    rw [hu] at this
    have h2 := h.good.cnt
    simp [As.free, Pa.gone] at this ⊢
    omega
  · simp only [As.free] at hx
    rcases mem_set hx with hx | rfl
    · have := h.bd.cnt x hx; omega
    · have := h.bd.cnt p (List.mem_of_getElem? hp); simp [Pa.gone]; omega
/-- The place that comes next, in both. -/
theorem Inv.next {k : Nat} {S D : As} (h : Inv k S D) : S.next.1 = D.next.1 ∧ ∃ c, c ≤ k ∧ (∃ pa, S.next.2.pls[S.next.1]? = some pa ∧ pa.cnt = c) ∧ ∃ pa, D.next.2.pls[D.next.1]? = some pa ∧ pa.cnt = c := by
  unfold As.next
  rw [← h.rel.fr]
  cases hf : S.fr with
  | nil => exact ⟨h.rel.len, 0, by omega, ⟨Pa.nil, by simp, rfl⟩, ⟨Pa.nil, by simp, rfl⟩⟩
  | cons i fr =>
    obtain ⟨p, hp, hu⟩ := h.good.un i (by rw [hf]; simp)
    obtain ⟨q, hq⟩ := h.q hp
    exact ⟨rfl, p.cnt, h.bd.cnt p (List.mem_of_getElem? hp), ⟨p, hp, rfl⟩, ⟨q, hq, (h.rel.at_ i p q hp hq).2.1.symm⟩⟩
theorem Inv.alloc {k c : Nat} {S D : As} (h : Inv k S D) (nd : Nd) (hc : c ≤ k) : Inv (k + 1) (S.alloc (c + 1) nd) (D.alloc (c + 1) nd) := by
  unfold As.alloc As.next
  rw [← h.rel.fr]
  cases hf : S.fr with
  | nil =>
    have hgc := h.good.cnt
    rw [hf] at hgc
    simp only [List.length_nil, Nat.add_zero] at hgc
    have e1 : (S.pls ++ [Pa.nil]).set S.pls.length ⟨true, c + 1, nd, nd.zs, 0, false⟩ = S.pls ++ [⟨true, c + 1, nd, nd.zs, 0, false⟩] := by rw [List.set_append_right _ _ (Nat.le_refl _)]; simp
    have e2 : (D.pls ++ [Pa.nil]).set D.pls.length ⟨true, c + 1, nd, nd.zs, 0, false⟩ = D.pls ++ [⟨true, c + 1, nd, nd.zs, 0, false⟩] := by rw [List.set_append_right _ _ (Nat.le_refl _)]; simp
    simp only [e1, e2]
    refine ⟨⟨h.rel.most, h.rel.flt, rfl, by simp [h.rel.len], fun j a b ha hb => ?_⟩, ⟨List.nodup_nil, (fun j hj => by cases hj), ?_⟩, ⟨by have := h.bd.len; simp; omega, fun x hx => ?_, by have := h.bd.flt; simp; omega, by simp⟩⟩
    · simp only at ha hb
      by_cases hj : j < S.pls.length
      · rw [List.getElem?_append_left hj] at ha
        rw [List.getElem?_append_left (by rw [← h.rel.len]; exact hj)] at hb
        exact h.rel.at_ j a b ha hb
      · rw [List.getElem?_append_right (by omega)] at ha
        rw [List.getElem?_append_right (by rw [← h.rel.len]; omega)] at hb
        rw [← h.rel.len] at hb
        have : a = b := by rw [ha] at hb; injection hb
        subst this
        exact ⟨rfl, rfl, fun _ => rfl⟩
    · simp only [usedN_snoc, List.length_append]
      simp
      omega
    · simp only [List.mem_append, List.mem_singleton] at hx
      rcases hx with hx | rfl
      · have := h.bd.cnt x hx; omega
      · simp; omega
  | cons i fr =>
    obtain ⟨p, hp, hu⟩ := h.good.un i (by rw [hf]; simp)
    have hil : i < S.pls.length := (List.getElem?_eq_some_iff.1 hp).1
    have hnd := h.good.nd
    rw [hf] at hnd
    simp only
    refine ⟨⟨h.rel.most, h.rel.flt, rfl, by simp [h.rel.len], fun j a b ha hb => ?_⟩, ⟨(List.nodup_cons.1 hnd).2, fun j hj => ?_, ?_⟩, ⟨by have := h.bd.len; simp; omega, fun x hx => ?_, by have := h.bd.flt; simp; omega, by have := h.bd.fr; rw [hf] at this; simp at this ⊢; omega⟩⟩
    · simp only [List.getElem?_set] at ha hb
      by_cases e : i = j
      · subst e
        rw [if_pos rfl, if_pos hil] at ha
        rw [if_pos rfl, if_pos (by rw [← h.rel.len]; exact hil)] at hb
        rw [ha] at hb; injection hb with hb; subst hb
        exact ⟨rfl, rfl, fun _ => rfl⟩
      · rw [if_neg e] at ha hb
        exact h.rel.at_ j a b ha hb
    · have e : i ≠ j := fun e => by subst e; exact (List.nodup_cons.1 hnd).1 hj
      obtain ⟨a, ha, hau⟩ := h.good.un j (by rw [hf]; simp [hj])
      exact ⟨a, by simp only; rw [List.getElem?_set_ne e]; exact ha, hau⟩
    · have := usedN_set S.pls i p ⟨true, c + 1, nd, nd.zs, 0, false⟩ hp
      rw [hu] at this
      have h2 := h.good.cnt
      rw [hf] at h2
      simp at this h2 ⊢
      omega
    · simp only at hx
      rcases mem_set hx with hx | rfl
      · have := h.bd.cnt x hx; omega
      · simp; omega
end Go.Proofs.Ytbalhjfkkigchaa
