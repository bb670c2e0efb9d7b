/-
  What is put in and cut, and the other way round: on plain lists of pairs whose keys rise. No Go in sight.
-/
import Derived.Test.YtfpnchnijfhjhaaPlain
namespace Go.Proofs.Ytfpnchnijfhjhaa

theorem getL_append {a b : List (Int × Int)} {x : Int} (h : ∀ q ∈ a, q.1 < x) : getL (a ++ b) x = getL b x := by
  induction a with
  | nil => rfl
  | cons p a ih =>
    have hp := h p (by simp)
    have e : getL (p :: (a ++ b)) x = getL (a ++ b) x := by rw [getL, if_pos hp]
    rw [List.cons_append, e]
    exact ih fun q hq => h q (by simp [hq])

theorem lo_append {a b : List (Int × Int)} {x : Int} (h : ∀ q ∈ a, q.1 < x) (hb : ∀ q ∈ b, x < q.1) : lo (a ++ b) x = a.length := by
  induction a with
  | nil =>
    cases b with
    | nil => rfl
    | cons p b => have := hb p (by simp); simp only [List.nil_append, lo]; rw [if_neg (by omega)]; rfl
  | cons p a ih =>
    have hp := h p (by simp)
    rw [List.cons_append]
    unfold lo
    rw [if_pos hp, ih fun q hq => h q (by simp [hq])]
    rfl

theorem get_putL {l : List (Int × Int)} (ha : Asc l) (x v : Int) : getL (putL l x v) x = some v := by
  rw [putL_any, getL_append (take_lt ha x)]
  simp [getL]
theorem has_putL {l : List (Int × Int)} (ha : Asc l) (x v : Int) : hasL (putL l x v) x = true := by unfold hasL; rw [get_putL ha]; rfl
theorem val_putL {l : List (Int × Int)} (ha : Asc l) (x v : Int) : valL (putL l x v) x = v := by unfold valL; rw [get_putL ha]; rfl

theorem has_mem {l : List (Int × Int)} {x : Int} (h : hasL l x = true) : ∃ p ∈ l, p.1 = x := by
  obtain ⟨hl, hk⟩ := (has_iff x).1 h
  exact ⟨_, List.getElem_mem hl, hk⟩

theorem has_cutL (l : List (Int × Int)) (x : Int) : hasL (cutL l x) x = false := by
  rcases h : hasL (cutL l x) x with _ | _
  · rfl
  · obtain ⟨p, hp, hk⟩ := has_mem h
    have := (List.mem_filter.1 hp).2
    simp [hk] at this

theorem cut_putL {l : List (Int × Int)} (ha : Asc l) {x : Int} (v : Int) (h : hasL l x = false) : cutL (putL l x v) x = l := by
  have e1 : cutL (putL l x v) x = cutL l x := by
    rw [putL_any]
    unfold cutL
    rw [List.filter_append, List.filter_cons, if_neg (by simp), List.filter_filter]
    conv => rhs; rw [← List.take_append_drop (lo l x) l, List.filter_append]
    simp
  rw [e1, cutL_eq ha, h]
  simp

theorem drop_gt {l : List (Int × Int)} (ha : Asc l) {x : Int} (h : hasL l x = true) : ∀ q ∈ l.drop (lo l x + 1), x < q.1 := by
  intro q hq
  obtain ⟨hl, hk⟩ := (has_iff x).1 h
  obtain ⟨i, hi, rfl⟩ := List.mem_iff_getElem.1 hq
  rw [List.length_drop] at hi
  rw [List.getElem_drop]
  have := List.pairwise_iff_getElem.1 ha (lo l x) (lo l x + 1 + i) hl (by omega) (by omega)
  omega

theorem put_cutL {l : List (Int × Int)} (ha : Asc l) {x : Int} (h : hasL l x = true) : putL (cutL l x) x (valL l x) = l := by
  obtain ⟨hl, hk, hv⟩ := val_at x h
  rw [cutL_eq ha, h, putL_any]
  simp only [if_true]
  have h1 := take_lt ha x
  have h2 := drop_gt ha h
  rw [lo_append h1 h2]
  have e1 : (l.take (lo l x)).length = lo l x := by rw [List.length_take]; omega
  have e2 : (l.take (lo l x) ++ l.drop (lo l x + 1)).take (l.take (lo l x)).length = l.take (lo l x) := by simp
  have e3 : (l.take (lo l x) ++ l.drop (lo l x + 1)).drop (l.take (lo l x)).length = l.drop (lo l x + 1) := by simp
  rw [e2, e3]
  have e4 : (l.drop (lo l x + 1)).filter (fun p => decide (p.1 ≠ x)) = l.drop (lo l x + 1) := by
    rw [List.filter_eq_self]
    intro q hq
    have := h2 q hq
    simp; omega
  rw [e4]
  have e5 : (x, valL l x) = l[lo l x] := Prod.ext hk.symm hv.symm
  rw [e5, ← List.drop_eq_getElem_cons hl, List.take_append_drop]
end Go.Proofs.Ytfpnchnijfhjhaa
