/-
  Plain lemmas of layer 3: where a key goes among keys that rise, in parts of them. No Go in sight.
-/
import Derived.Test.YtpbbkfpapmomhaaWay
import Derived.Test.YtpbbkfpapmomhaaLaw1
import Derived.Test.YtpbbkfpapmomhaaOf
namespace Go.Proofs.Ytpbbkfpapmomhaa
set_option linter.unusedVariables false

def Asc1 (ks : List Int) : Prop := ks.Pairwise fun a b => a < b
theorem asc1_rising (zs : List Int) : Asc1 ((risingL zs).map (·.1)) := by
  unfold Asc1
  rw [List.pairwise_map]
  exact asc_risingTo zs zs.length

theorem wayL_append (a b : List Int) (x : Int) : wayL (a ++ b) x = wayL a x + wayL b x := by unfold wayL; rw [List.filter_append, List.length_append]
theorem wayL_all {l : List Int} {x : Int} (h : ∀ z ∈ l, z ≤ x) : wayL l x = l.length := by
  unfold wayL; rw [List.filter_eq_self.2 (by simpa using h)]
theorem wayL_none {l : List Int} {x : Int} (h : ∀ z ∈ l, x < z) : wayL l x = 0 := by
  unfold wayL; rw [List.filter_eq_nil_iff.2 (by intro z hz; have := h z hz; simp; omega)]; rfl

theorem asc1_at {ks : List Int} (ha : Asc1 ks) {i j : Nat} (hij : i < j) (hj : j < ks.length) : ks[i]'(by omega) < ks[j] := List.pairwise_iff_getElem.1 ha i j (by omega) hj hij

/-- Of keys that rise those that aren't above x come first. -/
theorem way_split {ks : List Int} (ha : Asc1 ks) (x : Int) : (∀ i (h : i < ks.length), i < wayL ks x → ks[i] ≤ x) ∧ (∀ i (h : i < ks.length), wayL ks x ≤ i → x < ks[i]) := by
  induction ks with
  | nil => exact ⟨fun i h => absurd h (by simp), fun i h => absurd h (by simp)⟩
  | cons k ks ih =>
    have ht : Asc1 ks := (List.pairwise_cons.1 ha).2
    have hh : ∀ z ∈ ks, k < z := (List.pairwise_cons.1 ha).1
    obtain ⟨h1, h2⟩ := ih ht
    by_cases hk : k ≤ x
    · have e : wayL (k :: ks) x = wayL ks x + 1 := by unfold wayL; simp [hk]
      rw [e]
      refine ⟨fun i h hi => ?_, fun i h hi => ?_⟩
      · cases i with
        | zero => simpa using hk
        | succ i => simpa using h1 i (by simpa using h) (by omega)
      · cases i with
        | zero => omega
        | succ i => simpa using h2 i (by simpa using h) (by omega)
    · have hgt : ∀ z ∈ ks, x < z := fun z hz => by have := hh z hz; omega
      have e : wayL (k :: ks) x = 0 := wayL_none (by intro z hz; simp at hz; rcases hz with rfl | hz; (· omega); (· exact hgt z hz))
      rw [e]
      refine ⟨fun i h hi => absurd hi (by omega), fun i h _ => ?_⟩
      cases i with
      | zero => simpa using (show x < k by omega)
      | succ i => simpa using hgt _ (List.getElem_mem (by simpa using h))

theorem wayL_take {ks : List Int} (ha : Asc1 ks) (x : Int) (a : Nat) (h : a ≤ ks.length) : wayL (ks.take a) x = min a (wayL ks x) := by
  obtain ⟨h1, h2⟩ := way_split ha x
  by_cases hc : a ≤ wayL ks x
  · rw [wayL_all, List.length_take]
    · omega
    · intro z hz
      obtain ⟨i, hi, rfl⟩ := List.mem_iff_getElem.1 hz
      rw [List.length_take] at hi
      rw [List.getElem_take]
      exact h1 i (by omega) (by omega)
  · have e := wayL_append (ks.take a) (ks.drop a) x
    rw [List.take_append_drop] at e
    rw [wayL_none (l := ks.drop a)] at e
    · omega
    · intro z hz
      obtain ⟨i, hi, rfl⟩ := List.mem_iff_getElem.1 hz
      rw [List.length_drop] at hi
      rw [List.getElem_drop]
      exact h2 (a + i) (by omega) (by omega)
theorem wayL_drop {ks : List Int} (ha : Asc1 ks) (x : Int) (a : Nat) (h : a ≤ ks.length) : wayL (ks.drop a) x = wayL ks x - a := by
  have e := wayL_append (ks.take a) (ks.drop a) x
  rw [List.take_append_drop, wayL_take ha x a h] at e
  omega
theorem asc1_take {ks : List Int} (ha : Asc1 ks) (a : Nat) : Asc1 (ks.take a) := List.Pairwise.sublist (List.take_sublist _ _) ha
theorem asc1_drop {ks : List Int} (ha : Asc1 ks) (a : Nat) : Asc1 (ks.drop a) := List.Pairwise.sublist (List.drop_sublist _ _) ha
theorem asc1_gap {ks : List Int} (ha : Asc1 ks) {a b : Nat} (hab : a ≤ b) : Asc1 (ks.take a ++ ks.drop b) := by
  refine List.Pairwise.sublist ?_ ha
  conv => rhs; rw [← List.take_append_drop a ks]
  refine List.Sublist.append (List.Sublist.refl _) ?_
  rw [show b = a + (b - a) from by omega, ← List.drop_drop]
  exact List.drop_sublist _ _

/-- A search by halves ends where the key goes. -/
theorem spot_way {ks : List Int} (ha : Asc1 ks) {x : Int} {r : Nat} (h : Spot ks x r) : r = wayL ks x := by
  obtain ⟨h0, h1, h2⟩ := h
  obtain ⟨w1, w2⟩ := way_split ha x
  have hw := wayL_le ks x
  rcases Nat.lt_trichotomy r (wayL ks x) with hlt | heq | hgt
  · have hr : r < ks.length := by omega
    have a1 := h1 hr
    have a2 := w1 r hr hlt
    simp [gtB, List.getD, hr] at a1
    omega
  · exact heq
  · have hr : r - 1 < ks.length := by omega
    have a1 := h2 (by omega)
    have a2 := w2 (r - 1) hr (by omega)
    simp [gtB, List.getD, hr] at a1
    omega

theorem heldW_right {r n m : Nat} (hnm : n + 1 = m) (hr : r ≤ n) : heldW r m = r := by unfold heldW; omega

theorem waysTo_at (f : Int) (k i : Nat) (h : i ≤ k) : (waysTo f k).getD i 0 = f + (i : Int) := by
  have hi : i < (waysTo f k).length := by rw [waysTo_length]; omega
  simp [List.getD, hi]
  simp [waysTo]
end Go.Proofs.Ytpbbkfpapmomhaa
