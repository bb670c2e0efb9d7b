/-
  Queues of pairs of numbers in memory: a slice that is appended to, and cut from its first on. No function of the program in sight.
-/
import Derived.Test.YtmnbdhngadjmiaaBase8
namespace Go.Proofs.Ytmnbdhngadjmiaa
open Go.RowKit
set_option linter.unusedVariables false
set_option maxRecDepth 20000

/-- What the program says of a slice type sl whose elements el are pairs of numbers. -/
structure PaT (sl el : TypeId) : Prop where
  under : Try.prog.underlying sl = some (.slice el)
  under2 : Try.prog.underlying sl = some (.slice (Try.prog.elem sl))
  info : (Try.prog.info? el).map (fun i => (i.zero, i.size, i.bytes)) = some (some (.agg #[.int .i64 0, .int .i64 0]), 2, 16)
  elem : ∀ W : World, (sizeOf (Try.prog.elem sl)).run Try.prog W = .ok 2 W
theorem paE : PaT 99 110 := ⟨Try.underlying99, by kernel_rfl, by kernel_rfl, fun W => by kernel_rfl⟩
/-- The cells of pairs. -/
def fl : List (Int × Int) → List Value
  | [] => []
  | p :: l => .int .i64 p.1 :: .int .i64 p.2 :: fl l
theorem fl_length (l : List (Int × Int)) : (fl l).length = l.length * 2 := by
  induction l with
  | nil => rfl
  | cons p l ih => simp [fl, ih]; omega
theorem fl_append (a b : List (Int × Int)) : fl (a ++ b) = fl a ++ fl b := by
  induction a with
  | nil => rfl
  | cons p l ih => simp [fl, ih]
theorem fl_one (l : List (Int × Int)) : ∀ u ∈ fl l, u.oneCell' = true := by
  induction l with
  | nil => simp [fl]
  | cons p l ih =>
    intro u hu
    simp only [fl, List.mem_cons] at hu
    rcases hu with rfl | rfl | hu
    · rfl
    · rfl
    · exact ih u hu

/-- A queue: the pairs l, read at v. -/
def Qu (el : TypeId) (w : World) (v : Value) (l : List (Int × Int)) : Prop :=
  (v = .slice none 0 0 ∧ l = []) ∨ ∃ g off c cur, v = .slice (some ⟨g, off, none⟩) l.length c ∧ w.heap[g]? = some (.cells cur el (0, 0)) ∧ l.length ≤ c ∧ off + c * 2 ≤ cur.size ∧ ∀ (j : Nat) (u : Value), (fl l)[j]? = some u → cur[off + j]? = some u
section
variable {sl el : TypeId} {w w' : World} {v : Value} {l : List (Int × Int)} {p : Int × Int}
theorem Qu.nil (el : TypeId) (w : World) : Qu el w (.slice none 0 0) [] := .inl ⟨rfl, rfl⟩
theorem Qu.at_ (h : Qu el w v l) (hb : ∀ b, v.ownBlock = some b → w'.heap[b]? = w.heap[b]?) : Qu el w' v l := by
  rcases h with h | ⟨g, off, c, cur, rfl, h1, r⟩
  · exact .inl h
  · exact .inr ⟨g, off, c, cur, rfl, (hb g rfl).trans h1, r⟩
theorem Qu.ty (h : Qu el w v l) {b : Nat} (hb : v.ownBlock = some b) : Ty w b el := by
  rcases h with ⟨rfl, _⟩ | ⟨g, off, c, cur, rfl, h1, _⟩
  · cases hb
  · injection hb with hb; subst hb; exact ⟨cur, h1⟩
theorem Qu.lt (h : Qu el w v l) {b : Nat} (hb : v.ownBlock = some b) : b < w.heap.size := by
  obtain ⟨cur, h⟩ := h.ty hb
  exact (Array.getElem?_eq_some_iff.1 h).1
theorem Qu.form (h : Qu el w v l) : ∃ A c, v = .slice A l.length c := by
  rcases h with ⟨rfl, rfl⟩ | ⟨g, off, c, cur, rfl, h1, h2, h3, h4⟩
  · exact ⟨none, 0, rfl⟩
  · exact ⟨_, c, rfl⟩
/-- The first of them. -/
theorem Qu.first (h : Qu el w v (p :: l)) : ∃ g off c, v = .slice (some ⟨g, off, none⟩) (l.length + 1) c ∧ l.length + 1 ≤ c ∧ w.cell? ⟨g, off, none⟩ = some (.int .i64 p.1) ∧ w.cell? ⟨g, off + 1, none⟩ = some (.int .i64 p.2) := by
  rcases h with ⟨_, h0⟩ | ⟨g, off, c, cur, rfl, h1, h2, h3, h4⟩
  · cases h0
  · refine ⟨g, off, c, by simp, by simpa using h2, ?_, ?_⟩
    · rw [cell_of_row w g off cur _ (0, 0) h1]
      exact h4 0 _ rfl
    · rw [cell_of_row w g (off + 1) cur _ (0, 0) h1]
      exact h4 1 _ rfl
theorem Qu.of_own (h : w.ownsRow 0 el 2 v l.length (fl l)) : Qu el w v l := by
  have hl := h
  rcases h.2 with ⟨rfl, h0⟩ | ⟨g, cap, cur, rfl, _, hg, h1, h2, h3, h4⟩
  · exact .inl ⟨rfl, List.eq_nil_of_length_eq_zero h0⟩
  · refine .inr ⟨g, 0, cap, cur, rfl, hg, h1, by omega, fun i z hz => ?_⟩
    have hi : i < (fl l).length := (List.getElem?_eq_some_iff.1 hz).1
    rw [fl_length] at hi
    have := World.ownsRow.cellAt hl i (by omega)
    rw [cell_of_row w g i cur _ (0, 0) hg, hz] at this
    simpa using this
set_option maxHeartbeats 2000000 in
/-- 'append(q, p)'. -/
theorem Qu.push (R : PaT sl el) (h : Qu el w v l) (ty : TypeId) (s : Nat) (hs0 : w.cell? ⟨s, 0, none⟩ = some (.int .i64 p.1)) (hs1 : w.cell? ⟨s, 1, none⟩ = some (.int .i64 p.2)) (hl : l.length ≤ 100000) :
    ∃ v' w', (Builtin.append_ #[sl, sl] ty #[v, .slice (some ⟨s, 0, none⟩) 1 1]).run Try.prog w = .ok v' w' ∧ Qu el w' v' (l ++ [p]) ∧ w.grownBy w' v.ownBlock ∧ ∀ b, v'.ownBlock = some b → v.ownBlock = some b ∨ w.heap.size ≤ b := by
  obtain ⟨i0, hi0, hz0, hz1, hz2⟩ := info_parts R.info
  have hnews : ∀ (j : Nat) (u : Value), (fl [p])[j]? = some u → w.cell? ((⟨s, 0, none⟩ : Addr).add j) = some u := by
    intro j u hj
    match j, hj with
    | 0, hj => simp [fl] at hj; subst hj; simpa [Addr.add] using hs0
    | 1, hj => simp [fl] at hj; subst hj; simpa [Addr.add] using hs1
  rcases h with ⟨rfl, rfl⟩ | ⟨g, off, c, cur, rfl, hg, h2, h3, h4⟩
  · obtain ⟨v', w', hr, ho, hgr, hb⟩ := run_push (w := w) sl ty el i0 _ 2 16 R.under hi0 hz0 hz1 hz2 rfl (by omega) (.slice none 0 0) 0 [] (World.ownsRow_nil _ _ _ _) ⟨s, 0, none⟩ 1 1 (fl [p]) rfl hnews (fl_one _) (by unfold maxLen; omega) (by omega)
    exact ⟨v', w', hr, Qu.of_own (l := [p]) (by simpa using ho), hgr, hb⟩
  · by_cases hroom : l.length + 1 ≤ c
    · have hcell : ∀ j, j < (fl [p]).length → (w.cell? ⟨g, off + l.length * i0.size + j, none⟩).isSome = true := by
        intro j hj
        rw [fl_length] at hj
        simp at hj
        rw [hz1, cell_of_row w g _ cur _ (0, 0) hg]
        simp
        omega
      have hr := run_append_room_src (P := Try.prog) (w := w) sl sl ty el i0 R.under hi0 g off l.length c (.slice (some ⟨s, 0, none⟩) 1 1) 1 (fl [p]) (Src.ofSlice w R.under ⟨s, 0, none⟩ 1 1 _ (by rw [hz1]; rfl) hnews (fl_one _)) hroom hcell (fun j _ => frozen_of_row w g _ _ _ hg)
      refine ⟨_, _, hr, .inr ⟨g, off, c, (cur.setIfInBounds (off + l.length * 2) (.int .i64 p.1)).setIfInBounds (off + l.length * 2 + 1) (.int .i64 p.2), by simp, ?_, by simpa using hroom, by simpa using h3, fun i y hy => ?_⟩, ?_, fun b hb => .inl hb⟩
      · simp only [fl, World.setCells, hz1]
        exact heap_setCell_same _ g _ _ _ _ (heap_setCell_same w g _ _ _ _ hg)
      · rw [fl_append] at hy
        rw [Array.getElem?_setIfInBounds, Array.getElem?_setIfInBounds]
        by_cases hi : i < (fl l).length
        · rw [List.getElem?_append_left hi] at hy
          rw [fl_length] at hi
          rw [if_neg (by omega), if_neg (by omega)]
          exact h4 i y hy
        · rw [List.getElem?_append_right (by omega)] at hy
          rw [fl_length] at hi hy
          have hlt := (List.getElem?_eq_some_iff.1 hy).1
          rw [fl_length] at hlt
          simp at hlt
          obtain h0 | h0 : i = l.length * 2 ∨ i = l.length * 2 + 1 := by omega
          · subst h0
            simp [fl] at hy
            subst hy
            rw [if_neg (by omega), if_pos (by omega), if_pos (by omega)]
          · subst h0
            have e : l.length * 2 + 1 - l.length * 2 = 1 := by omega
            rw [e] at hy
            simp [fl] at hy
            subst hy
            rw [if_pos (by omega), if_pos (by simp; omega)]
      · simp only [fl, World.setCells, hz1]
        exact grown_two (grown_set w ⟨g, off + l.length * 2, none⟩ (.int .i64 p.1)) (grown_set (w.setCell ⟨g, off + l.length * 2, none⟩ (.int .i64 p.1)) ⟨g, off + l.length * 2 + 1, none⟩ (.int .i64 p.2))
    · have holds : ∀ (j : Nat) (u : Value), (fl l)[j]? = some u → w.cell? ((⟨g, off, none⟩ : Addr).add j) = some u := by
        intro j u hj
        rw [add_lit0, cell_of_row w g _ cur _ (0, 0) hg, h4 j u hj]
      have hr := run_append_grow (P := Try.prog) w sl ty el i0 _ R.under hi0 hz0 ⟨g, off, none⟩ l.length c (fl l) (by rw [hz1, fl_length]) holds ⟨s, 0, none⟩ 1 1 (fl [p]) (by rw [hz1]; rfl) hnews (by omega) (by omega) (growslice_fits (by omega) (by rw [hz2]; omega))
      refine ⟨_, _, hr, .inr ⟨w.heap.size, 0, grownCap w (l.length + 1) c el, _, by simp, heap_alloc_new w.drew _, by simpa using grownCap_ge w (l.length + 1) c el, ?_, fun i y hy => ?_⟩, ⟨rfl, rfl, rfl, by simp, fun k hk _ => Below.heap_alloc w.drew _ k hk⟩, fun b hb => ?_⟩
      · have hge := grownCap_ge w (l.length + 1) c el
        simp only [Array.size_append, List.size_toArray, fl_length, size_zeroCells, show (Value.agg #[.int .i64 0, .int .i64 0]).cells.size = 2 from rfl, List.length_cons, List.length_nil]
        omega
      · have hi := (List.getElem?_eq_some_iff.1 hy).1
        rw [fl_append] at hy
        rw [fl_length] at hi
        simp at hi
        rw [Nat.zero_add, Array.getElem?_append_left (by simp [fl_length]; omega)]
        have e : (fl l).toArray ++ (fl [p]).toArray = (fl l ++ fl [p]).toArray := by simp
        rw [e, List.getElem?_toArray, hy]
      · simp [Value.ownBlock] at hb
        exact .inr (by omega)
/-- 'q[1:]'. -/
theorem Qu.tail (R : PaT sl el) {A : Option Addr} {n c : Nat} (h : Qu el w (.slice A n c) (p :: l)) :
    ∃ A' c', Qu el w (.slice A' l.length c') l ∧ (∀ b, (Value.slice A' l.length c').ownBlock = some b → (Value.slice A n c).ownBlock = some b) ∧ ∀ W : World, (Instr.slice sl (.slice A n c) (some (.int .i64 1)) none none).run Try.prog W = .ok (.slice A' l.length c') W := by
  rcases h with ⟨_, h0⟩ | ⟨g, off, c2, cur, e, hg, h2, h3, h4⟩
  · cases h0
  · injection e with e1 e2 e3
    subst e1 e2 e3
    have hrun : ∀ W : World, (Instr.slice sl (.slice (some ⟨g, off, none⟩) (p :: l).length c) (some (.int .i64 1)) none none).run Try.prog W = .ok (.slice (if c = 1 then some ⟨g, off, none⟩ else some ⟨g, off + 2, none⟩) l.length (c - 1)) W := by
      intro W
      have := run_slice_l (P := Try.prog) (t := sl) W (some ⟨g, off, none⟩) (p :: l).length c R.under2 .i64 1 (by omega) (by simp; omega)
      rw [R.elem W] at this
      rw [this]
      simp [Result.andThen, sliced, add_lit0]
    refine ⟨_, _, ?_, ?_, hrun⟩
    · by_cases hc : c = 1
      · have hl : l = [] := List.eq_nil_of_length_eq_zero (by simp at h2; omega)
        subst hl
        rw [if_pos hc]
        exact .inr ⟨g, off, c - 1, cur, rfl, hg, by simp, by omega, fun i y hy => by simp [fl] at hy⟩
      · rw [if_neg hc]
        refine .inr ⟨g, off + 2, c - 1, cur, rfl, hg, by simp at h2; omega, by simp at h2; omega, fun i y hy => ?_⟩
        have := h4 (i + 2) y (by simpa [fl] using hy)
        rw [show off + 2 + i = off + (i + 2) from by omega]
        exact this
    · intro b hb
      split at hb <;> simpa [Value.ownBlock] using hb
end
end Go.Proofs.Ytmnbdhngadjmiaa
