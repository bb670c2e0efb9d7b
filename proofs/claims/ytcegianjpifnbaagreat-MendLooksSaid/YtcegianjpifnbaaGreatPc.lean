/-
  The epoch's memory and its calls.
-/
import Derived.Test.YtcegianjpifnbaaGreatPa
import Derived.Lib.MinMax
import Derived.WalkLawsBesides
import Derived.Deep.CutBlock
import Derived.Deep.DeepCutAuto
import Derived.Deep.LoopGhost
namespace Go.Proofs.YtcegianjpifnbaaGreat
open Go.RowKit
set_option linter.unusedVariables false
set_option maxRecDepth 20000

/-- What the program says of a slice type sl whose elements el are pairs of numbers. -/
structure PaT (sl el : TypeId) : Prop where
  under : Tryz.prog.underlying sl = some (.slice el)
  under2 : Tryz.prog.underlying sl = some (.slice (Tryz.prog.elem sl))
  info : (Tryz.prog.info? el).map (fun i => (i.zero, i.size, i.bytes)) = some (some (.agg #[.int .i64 0, .int .i64 0]), 2, 16)
  elem : ∀ W : World, (sizeOf (Tryz.prog.elem sl)).run Tryz.prog W = .ok 2 W
theorem paE : PaT 115 207 := ⟨Tryz.underlying115, by kernel_rfl, by kernel_rfl, fun W => by kernel_rfl⟩
/-- The cells of pairs. -/
def fl : List (Int × Int) → List Value
  | [] => []
  | p :: l => .int .i64 p.1 :: .int .i64 p.2 :: fl l
theorem fl_length (l : List (Int × Int)) : (fl l).length = l.length * 2 := by
  induction l with
  | nil => rfl
  | cons p l ih => simp [fl, ih]; omega
theorem fl_append (a b : List (Int × Int)) : fl (a ++ b) = fl a ++ fl b := by
  induction a with
  | nil => rfl
  | cons p l ih => simp [fl, ih]
theorem fl_one (l : List (Int × Int)) : ∀ u ∈ fl l, u.oneCell' = true := by
  induction l with
  | nil => simp [fl]
  | cons p l ih =>
    intro u hu
    simp only [fl, List.mem_cons] at hu
    rcases hu with rfl | rfl | hu
    · rfl
    · rfl
    · exact ih u hu

/-- A queue: the pairs l, read at v. -/
def Qu (el : TypeId) (w : World) (v : Value) (l : List (Int × Int)) : Prop :=
  (v = .slice none 0 0 ∧ l = []) ∨ ∃ g off c cur, v = .slice (some ⟨g, off, none⟩) l.length c ∧ w.heap[g]? = some (.cells cur el (0, 0)) ∧ l.length ≤ c ∧ off + c * 2 ≤ cur.size ∧ ∀ (j : Nat) (u : Value), (fl l)[j]? = some u → cur[off + j]? = some u
section
variable {sl el : TypeId} {w w' : World} {v : Value} {l : List (Int × Int)} {p : Int × Int}
theorem Qu.nil (el : TypeId) (w : World) : Qu el w (.slice none 0 0) [] := .inl ⟨rfl, rfl⟩
theorem Qu.at_ (h : Qu el w v l) (hb : ∀ b, v.ownBlock = some b → w'.heap[b]? = w.heap[b]?) : Qu el w' v l := by
  rcases h with h | ⟨g, off, c, cur, rfl, h1, r⟩
  · exact .inl h
  · exact .inr ⟨g, off, c, cur, rfl, (hb g rfl).trans h1, r⟩
theorem Qu.ty (h : Qu el w v l) {b : Nat} (hb : v.ownBlock = some b) : Ty w b el := by
  rcases h with ⟨rfl, _⟩ | ⟨g, off, c, cur, rfl, h1, _⟩
  · cases hb
  · injection hb with hb; subst hb; exact ⟨cur, h1⟩
theorem Qu.lt (h : Qu el w v l) {b : Nat} (hb : v.ownBlock = some b) : b < w.heap.size := by
  obtain ⟨cur, h⟩ := h.ty hb
  exact (Array.getElem?_eq_some_iff.1 h).1
theorem Qu.form (h : Qu el w v l) : ∃ A c, v = .slice A l.length c := by
  rcases h with ⟨rfl, rfl⟩ | ⟨g, off, c, cur, rfl, h1, h2, h3, h4⟩
  · exact ⟨none, 0, rfl⟩
  · exact ⟨_, c, rfl⟩
/-- The first of them. -/
theorem Qu.first (h : Qu el w v (p :: l)) : ∃ g off c, v = .slice (some ⟨g, off, none⟩) (l.length + 1) c ∧ l.length + 1 ≤ c ∧ w.cell? ⟨g, off, none⟩ = some (.int .i64 p.1) ∧ w.cell? ⟨g, off + 1, none⟩ = some (.int .i64 p.2) := by
  rcases h with ⟨_, h0⟩ | ⟨g, off, c, cur, rfl, h1, h2, h3, h4⟩
  · cases h0
  · refine ⟨g, off, c, by simp, by simpa using h2, ?_, ?_⟩
    · rw [cell_of_row w g off cur _ (0, 0) h1]
      exact h4 0 _ rfl
    · rw [cell_of_row w g (off + 1) cur _ (0, 0) h1]
      exact h4 1 _ rfl
theorem Qu.of_own (h : w.ownsRow 0 el 2 v l.length (fl l)) : Qu el w v l := by
  have hl := h
  rcases h.2 with ⟨rfl, h0⟩ | ⟨g, cap, cur, rfl, _, hg, h1, h2, h3, h4⟩
  · exact .inl ⟨rfl, List.eq_nil_of_length_eq_zero h0⟩
  · refine .inr ⟨g, 0, cap, cur, rfl, hg, h1, by omega, fun i z hz => ?_⟩
    have hi : i < (fl l).length := (List.getElem?_eq_some_iff.1 hz).1
    rw [fl_length] at hi
    have := World.ownsRow.cellAt hl i (by omega)
    rw [cell_of_row w g i cur _ (0, 0) hg, hz] at this
    simpa using this
set_option maxHeartbeats 2000000 in
/-- 'append(q, p)'. -/
theorem Qu.push (R : PaT sl el) (h : Qu el w v l) (ty : TypeId) (s : Nat) (hs0 : w.cell? ⟨s, 0, none⟩ = some (.int .i64 p.1)) (hs1 : w.cell? ⟨s, 1, none⟩ = some (.int .i64 p.2)) (hl : l.length ≤ 100000) :
    ∃ v' w', (Builtin.append_ #[sl, sl] ty #[v, .slice (some ⟨s, 0, none⟩) 1 1]).run Tryz.prog w = .ok v' w' ∧ Qu el w' v' (l ++ [p]) ∧ w.grownBy w' v.ownBlock ∧ ∀ b, v'.ownBlock = some b → v.ownBlock = some b ∨ w.heap.size ≤ b := by
  obtain ⟨i0, hi0, hz0, hz1, hz2⟩ := info_parts R.info
  have hnews : ∀ (j : Nat) (u : Value), (fl [p])[j]? = some u → w.cell? ((⟨s, 0, none⟩ : Addr).add j) = some u := by
    intro j u hj
    match j, hj with
    | 0, hj => simp [fl] at hj; subst hj; simpa [Addr.add] using hs0
    | 1, hj => simp [fl] at hj; subst hj; simpa [Addr.add] using hs1
  rcases h with ⟨rfl, rfl⟩ | ⟨g, off, c, cur, rfl, hg, h2, h3, h4⟩
  · obtain ⟨v', w', hr, ho, hgr, hb⟩ := run_push (w := w) sl ty el i0 _ 2 16 R.under hi0 hz0 hz1 hz2 rfl (by omega) (.slice none 0 0) 0 [] (World.ownsRow_nil _ _ _ _) ⟨s, 0, none⟩ 1 1 (fl [p]) rfl hnews (fl_one _) (by unfold maxLen; omega) (by omega)
    exact ⟨v', w', hr, Qu.of_own (l := [p]) (by simpa using ho), hgr, hb⟩
  · by_cases hroom : l.length + 1 ≤ c
    · have hcell : ∀ j, j < (fl [p]).length → (w.cell? ⟨g, off + l.length * i0.size + j, none⟩).isSome = true := by
        intro j hj
        rw [fl_length] at hj
        simp at hj
        rw [hz1, cell_of_row w g _ cur _ (0, 0) hg]
        simp
        omega
      have hr := run_append_room_src (P := Tryz.prog) (w := w) sl sl ty el i0 R.under hi0 g off l.length c (.slice (some ⟨s, 0, none⟩) 1 1) 1 (fl [p]) (Src.ofSlice w R.under ⟨s, 0, none⟩ 1 1 _ (by rw [hz1]; rfl) hnews (fl_one _)) hroom hcell (fun j _ => frozen_of_row w g _ _ _ hg)
      refine ⟨_, _, hr, .inr ⟨g, off, c, (cur.setIfInBounds (off + l.length * 2) (.int .i64 p.1)).setIfInBounds (off + l.length * 2 + 1) (.int .i64 p.2), by simp, ?_, by simpa using hroom, by simpa using h3, fun i y hy => ?_⟩, ?_, fun b hb => .inl hb⟩
      · simp only [fl, World.setCells, hz1]
        exact heap_setCell_same _ g _ _ _ _ (heap_setCell_same w g _ _ _ _ hg)
      · rw [fl_append] at hy
        rw [Array.getElem?_setIfInBounds, Array.getElem?_setIfInBounds]
        by_cases hi : i < (fl l).length
        · rw [List.getElem?_append_left hi] at hy
          rw [fl_length] at hi
          rw [if_neg (by omega), if_neg (by omega)]
          exact h4 i y hy
        · rw [List.getElem?_append_right (by omega)] at hy
          rw [fl_length] at hi hy
          have hlt := (List.getElem?_eq_some_iff.1 hy).1
          rw [fl_length] at hlt
          simp at hlt
          obtain h0 | h0 : i = l.length * 2 ∨ i = l.length * 2 + 1 := by omega
          · subst h0
            simp [fl] at hy
            subst hy
            rw [if_neg (by omega), if_pos (by omega), if_pos (by omega)]
          · subst h0
            have e : l.length * 2 + 1 - l.length * 2 = 1 := by omega
            rw [e] at hy
            simp [fl] at hy
            subst hy
            rw [if_pos (by omega), if_pos (by simp; omega)]
      · simp only [fl, World.setCells, hz1]
        exact grown_two (grown_set w ⟨g, off + l.length * 2, none⟩ (.int .i64 p.1)) (grown_set (w.setCell ⟨g, off + l.length * 2, none⟩ (.int .i64 p.1)) ⟨g, off + l.length * 2 + 1, none⟩ (.int .i64 p.2))
    · have holds : ∀ (j : Nat) (u : Value), (fl l)[j]? = some u → w.cell? ((⟨g, off, none⟩ : Addr).add j) = some u := by
        intro j u hj
        rw [add_lit0, cell_of_row w g _ cur _ (0, 0) hg, h4 j u hj]
      have hr := run_append_grow (P := Tryz.prog) w sl ty el i0 _ R.under hi0 hz0 ⟨g, off, none⟩ l.length c (fl l) (by rw [hz1, fl_length]) holds ⟨s, 0, none⟩ 1 1 (fl [p]) (by rw [hz1]; rfl) hnews (by omega) (by omega) (growslice_fits (by omega) (by rw [hz2]; omega))
      refine ⟨_, _, hr, .inr ⟨w.heap.size, 0, grownCap w (l.length + 1) c el, _, by simp, heap_alloc_new w.drew _, by simpa using grownCap_ge w (l.length + 1) c el, ?_, fun i y hy => ?_⟩, ⟨rfl, rfl, rfl, by simp, fun k hk _ => Below.heap_alloc w.drew _ k hk⟩, fun b hb => ?_⟩
      · have hge := grownCap_ge w (l.length + 1) c el
        simp only [Array.size_append, List.size_toArray, fl_length, size_zeroCells, show (Value.agg #[.int .i64 0, .int .i64 0]).cells.size = 2 from rfl, List.length_cons, List.length_nil]
        omega
      · have hi := (List.getElem?_eq_some_iff.1 hy).1
        rw [fl_append] at hy
        rw [fl_length] at hi
        simp at hi
        rw [Nat.zero_add, Array.getElem?_append_left (by simp [fl_length]; omega)]
        have e : (fl l).toArray ++ (fl [p]).toArray = (fl l ++ fl [p]).toArray := by simp
        rw [e, List.getElem?_toArray, hy]
      · simp [Value.ownBlock] at hb
        exact .inr (by omega)
/-- 'q[1:]'. -/
theorem Qu.tail (R : PaT sl el) {A : Option Addr} {n c : Nat} (h : Qu el w (.slice A n c) (p :: l)) :
    ∃ A' c', Qu el w (.slice A' l.length c') l ∧ (∀ b, (Value.slice A' l.length c').ownBlock = some b → (Value.slice A n c).ownBlock = some b) ∧ ∀ W : World, (Instr.slice sl (.slice A n c) (some (.int .i64 1)) none none).run Tryz.prog W = .ok (.slice A' l.length c') W := by
  rcases h with ⟨_, h0⟩ | ⟨g, off, c2, cur, e, hg, h2, h3, h4⟩
  · cases h0
  · injection e with e1 e2 e3
    subst e1 e2 e3
    have hrun : ∀ W : World, (Instr.slice sl (.slice (some ⟨g, off, none⟩) (p :: l).length c) (some (.int .i64 1)) none none).run Tryz.prog W = .ok (.slice (if c = 1 then some ⟨g, off, none⟩ else some ⟨g, off + 2, none⟩) l.length (c - 1)) W := by
      intro W
      have := run_slice_l (P := Tryz.prog) (t := sl) W (some ⟨g, off, none⟩) (p :: l).length c R.under2 .i64 1 (by omega) (by simp; omega)
      rw [R.elem W] at this
      rw [this]
      simp [Result.andThen, sliced, add_lit0]
    refine ⟨_, _, ?_, ?_, hrun⟩
    · by_cases hc : c = 1
      · have hl : l = [] := List.eq_nil_of_length_eq_zero (by simp at h2; omega)
        subst hl
        rw [if_pos hc]
        exact .inr ⟨g, off, c - 1, cur, rfl, hg, by simp, by omega, fun i y hy => by simp [fl] at hy⟩
      · rw [if_neg hc]
        refine .inr ⟨g, off + 2, c - 1, cur, rfl, hg, by simp at h2; omega, by simp at h2; omega, fun i y hy => ?_⟩
        have := h4 (i + 2) y (by simpa [fl] using hy)
        rw [show off + 2 + i = off + (i + 2) from by omega]
        exact this
    · intro b hb
      split at hb <;> simpa [Value.ownBlock] using hb
end
end Go.Proofs.YtcegianjpifnbaaGreat
namespace Go.Proofs.YtcegianjpifnbaaGreat
open Go.ChangeShapes Go.WideShapes Go.ChangeAt Go.RowKit
set_option linter.unusedVariables false
set_option linter.unusedSimpArgs false
set_option maxRecDepth 20000

/-- What a thread announced, and the nodes that it let go, each with its epoch. -/
abbrev Tq := Int × List (Int × Int)
/-- Threads' queues: a row of cells (cf says which) at T, each thread's queue in a block of its own. -/
structure Qs (F : Nat → Prop) (w : World) (el rt : TypeId) (sz : Nat) (cf : List (Tq × Value) → List Value) (l : List (Tq × Value)) (T : Value) : Prop where
  row : w.ownsRow 0 rt sz T l.length (cf l)
  frow : ∀ b, T.ownBlock = some b → F b
  que : ∀ x ∈ l, Qu el w x.2 x.1.2
  fque : ∀ x ∈ l, ∀ b, x.2.ownBlock = some b → F b
  sep : ∀ (i j : Nat) (x y : Tq × Value) (g : Nat), l[i]? = some x → l[j]? = some y → x.2.ownBlock = some g → y.2.ownBlock = some g → i = j
section
variable {F G : Nat → Prop} {w w' : World} {el rt : TypeId} {sz : Nat} {cf : List (Tq × Value) → List Value} {l : List (Tq × Value)} {T : Value} {i : Nat} {x : Tq × Value}
theorem Qs.keep (h : Qs F w el rt sz cf l T) (hb : ∀ b, F b → w'.heap[b]? = w.heap[b]?) : Qs F w' el rt sz cf l T :=
  ⟨own_at h.row fun b e => hb b (h.frow b e), h.frow, fun x hx => (h.que x hx).at_ fun b e => hb b (h.fque x hx b e), h.fque, h.sep⟩
theorem Qs.mono (h : Qs F w el rt sz cf l T) (hs : ∀ b, F b → G b) : Qs G w el rt sz cf l T :=
  ⟨h.row, fun b e => hs b (h.frow b e), h.que, fun x hx b e => hs b (h.fque x hx b e), h.sep⟩
/-- Its row, where there is a thread. -/
theorem Qs.form (h : Qs F w el rt sz cf l T) (hi : l[i]? = some x) : ∃ g c, T = .slice (some ⟨g, 0, none⟩) l.length c ∧ g < w.heap.size ∧ F g ∧ Ty w g rt ∧ l.length ≤ c ∧ (∀ j, j < l.length * sz → w.cell? ⟨g, j, none⟩ = (cf l)[j]?) ∧ ∀ j, w.frozen? ⟨g, j, none⟩ = false := by
  have hr := h.row
  have hl : i < l.length := (List.getElem?_eq_some_iff.1 hi).1
  rcases h.row.2 with ⟨_, h0⟩ | ⟨g, cap, cur, rfl, _, hg, h1, h2, _⟩
  · omega
  · exact ⟨g, cap, rfl, (Array.getElem?_eq_some_iff.1 hg).1, h.frow g rfl, ⟨cur, hg⟩, h1, fun j hj => World.ownsRow.cellAt hr _ hj, fun j => frozen_of_row w g j _ _ hg⟩
theorem Qs.shape (h : Qs F w el rt sz cf l T) : ∃ A c, T = .slice A l.length c := by
  rcases h.row.2 with ⟨rfl, h0⟩ | ⟨g, cap, cur, rfl, _⟩
  · exact ⟨none, 0, by rw [h0]⟩
  · exact ⟨_, cap, rfl⟩
/-- Behind a store into the row: thread i is (y, v) now; ahead of it its queue may have grown. -/
theorem Qs.put (h : Qs F w el rt sz cf l T) (hi : l[i]? = some x) {k : Nat} {u v : Value} {y : Tq} (hk : k < l.length * sz) (hset : (cf l).set k u = cf (l.set i (y, v))) (hg : w.grownBy w' x.2.ownBlock) (hq : Qu el w' v y.2)
    (hb : ∀ b, v.ownBlock = some b → x.2.ownBlock = some b ∨ w.heap.size ≤ b) (hlt : ∀ b, F b → b < w.heap.size) (hne : rt ≠ el) (hFG : ∀ b, F b → G b) (hvG : ∀ b, v.ownBlock = some b → G b)
    {g c : Nat} (hT : T = .slice (some ⟨g, 0, none⟩) l.length c) :
    Qs G (w'.setCell ⟨g, k, none⟩ u) el rt sz cf (l.set i (y, v)) T ∧ Only F w (w'.setCell ⟨g, k, none⟩ u) ∧ w'.cell? ⟨g, k, none⟩ = (cf l)[k]? ∧ w'.frozen? ⟨g, k, none⟩ = false ∧ w.heap.size ≤ (w'.setCell ⟨g, k, none⟩ u).heap.size ∧
    (∀ (b : Nat) (t : TypeId), Ty w b t → t ≠ el → t ≠ rt → (w'.setCell ⟨g, k, none⟩ u).heap[b]? = w.heap[b]?) := by
  have hil : i < l.length := (List.getElem?_eq_some_iff.1 hi).1
  have hxm := List.mem_of_getElem? hi
  subst hT
  have hgF : F g := h.frow g rfl
  have hgl := hlt g hgF
  have hgT : Ty w g rt := own_ty h.row rfl
  have hxT : ∀ b, x.2.ownBlock = some b → Ty w b el := fun b e => (h.que x hxm).ty e
  have hgg : w'.heap[g]? = w.heap[g]? := hg.block g hgl (fun e => hne (hgT.one (hxT g e.symm)))
  have hrow : w'.ownsRow 0 rt sz (.slice (some ⟨g, 0, none⟩) l.length c) l.length (cf l) := own_at h.row fun b e => by
    injection e with e; subst e; exact hgg
  have hgT' : Ty w' g rt := by obtain ⟨cur, e⟩ := hgT; exact ⟨cur, hgg.trans e⟩
  have ho : ∀ (b : Nat) (t : TypeId), Ty w b t → t ≠ el → t ≠ rt → (w'.setCell ⟨g, k, none⟩ u).heap[b]? = w.heap[b]? := by
    intro b t ht h1 h2
    have hbl : b < w.heap.size := by obtain ⟨cur, e⟩ := ht; exact (Array.getElem?_eq_some_iff.1 e).1
    rw [heap_setCell_other w' ⟨g, k, none⟩ b u (fun e => h2 (ht.one (by subst e; exact hgT)))]
    exact hg.block b hbl (fun e => h1 (ht.one (hxT b e.symm)))
  have hother : ∀ (j : Nat) (z : Tq × Value), l[j]? = some z → j ≠ i → Qu el (w'.setCell ⟨g, k, none⟩ u) z.2 z.1.2 := by
    intro j z hj hji
    have hzm := List.mem_of_getElem? hj
    refine (h.que z hzm).at_ fun b e => ?_
    rw [heap_setCell_other w' ⟨g, k, none⟩ b u (fun eb => hne (hgT.one (by subst eb; exact (h.que z hzm).ty e)))]
    exact hg.block b (hlt b (h.fque z hzm b e)) (fun eb => hji (h.sep j i z x b hj hi e eb.symm))
  have hst := World.ownsRow.stored hrow k u
  refine ⟨⟨?_, fun b e => hFG b (h.frow b e), ?_, ?_, ?_⟩, ?_, World.ownsRow.cellAt hrow k hk, World.ownsRow.frozenAt hrow k, by simpa using hg.size, ho⟩
  · have := hst.1
    rw [hset] at this
    rw [List.length_set]
    exact this
  · intro z hz
    obtain ⟨j, hj⟩ := List.getElem?_of_mem hz
    rw [List.getElem?_set] at hj
    by_cases e1 : i = j
    · subst e1
      rw [if_pos rfl, if_pos hil] at hj
      injection hj with hj; subst hj
      exact hq.at_ fun b e => heap_setCell_other w' ⟨g, k, none⟩ b u (fun eb => hne (hgT'.one (by subst eb; exact hq.ty e)))
    · rw [if_neg e1] at hj
      exact hother j z hj (fun e => e1 e.symm)
  · intro z hz b e
    rcases List.mem_or_eq_of_mem_set hz with hz | rfl
    · exact hFG b (h.fque z hz b e)
    · exact hvG b e
  · intro a b z z' g' ha hb' e1 e2
    rw [List.getElem?_set] at ha hb'
    by_cases h1 : i = a
    · by_cases h2 : i = b
      · omega
      · rw [if_neg h2] at hb'
        subst h1
        rw [if_pos rfl, if_pos hil] at ha
        injection ha with ha; subst ha
        rcases hb g' e1 with e | e
        · exact h.sep i b x z' g' hi hb' e e2
        · have := hlt g' (h.fque z' (List.mem_of_getElem? hb') g' e2)
          omega
    · rw [if_neg h1] at ha
      by_cases h2 : i = b
      · subst h2
        rw [if_pos rfl, if_pos hil] at hb'
        injection hb' with hb'; subst hb'
        rcases hb g' e2 with e | e
        · exact h.sep a i z x g' ha hi e1 e
        · have := hlt g' (h.fque z (List.mem_of_getElem? ha) g' e1)
          omega
      · rw [if_neg h2] at hb'
        exact h.sep a b z z' g' ha hb' e1 e2
  · exact (Only.grown F hg fun b e => h.fque x hxm b e).then (Only.set F w' (p := ⟨g, k, none⟩) hgF u)
end

/-- The program's row of threads. -/
def cE : List (Tq × Value) → List Value
  | [] => []
  | x :: l => .int .i64 x.1.1 :: x.2 :: cE l
theorem cE_length (l : List (Tq × Value)) : (cE l).length = l.length * 2 := by
  induction l with
  | nil => rfl
  | cons p l ih => simp [cE, ih]; omega
theorem cE_at {l : List (Tq × Value)} {i : Nat} {x : Tq × Value} (h : l[i]? = some x) : (cE l)[i * 2]? = some (.int .i64 x.1.1) ∧ (cE l)[i * 2 + 1]? = some x.2 := by
  induction l generalizing i with
  | nil => simp at h
  | cons q l ih =>
    cases i with
    | zero => simp at h; subst h; exact ⟨rfl, rfl⟩
    | succ i =>
      simp at h
      have := ih h
      rw [show (i + 1) * 2 = i * 2 + 1 + 1 from by omega]
      simpa [cE] using this
theorem cE_set0 {l : List (Tq × Value)} {i : Nat} {x : Tq × Value} (h : l[i]? = some x) (z : Int) : (cE l).set (i * 2) (.int .i64 z) = cE (l.set i ((z, x.1.2), x.2)) := by
  induction l generalizing i with
  | nil => simp at h
  | cons q l ih =>
    cases i with
    | zero => simp at h; subst h; rfl
    | succ i =>
      simp at h
      rw [show (i + 1) * 2 = i * 2 + 1 + 1 from by omega]
      simp [cE, ih h]
theorem cE_set1 {l : List (Tq × Value)} {i : Nat} {x : Tq × Value} (h : l[i]? = some x) (q : List (Int × Int)) (v : Value) : (cE l).set (i * 2 + 1) v = cE (l.set i ((x.1.1, q), v)) := by
  induction l generalizing i with
  | nil => simp at h
  | cons p l ih =>
    cases i with
    | zero => simp at h; subst h; rfl
    | succ i =>
      simp at h
      rw [show (i + 1) * 2 + 1 = i * 2 + 1 + 1 + 1 from by omega]
      simp [cE, ih h]

abbrev epT : TypeId := 114
abbrev onT : TypeId := 117
abbrev goT : TypeId := 207
/-- Epochs at block a: F are their blocks. -/
structure Ep (F : Nat → Prop) (w : World) (a : Nat) (now : Int) (l : List (Tq × Value)) (T : Value) : Prop where
  lt : ∀ b, F b → b < w.heap.size
  head : w.heap[a]? = some (.cells #[.int .i64 now, T] epT (0, 0))
  fa : F a
  qs : Qs F w goT onT 2 cE l T
/-- Epochs of threads S, wherever their slices lie. -/
def EpS (F : Nat → Prop) (w : World) (a : Nat) (now : Int) (S : List Tq) : Prop := ∃ l T, Ep F w a now l T ∧ S = l.map (·.1)
/-- Behind a call: the epochs are so, and nothing else has changed. -/
def NxE (F : Nat → Prop) (w : World) (a : Nat) (now : Int) (S : List Tq) (w' : World) : Prop := ∃ F', EpS F' w' a now S ∧ Only F w w' ∧ ∀ b, F' b → F b ∨ w.heap.size ≤ b
section
variable {F G : Nat → Prop} {w w' : World} {a i : Nat} {now : Int} {S : List Tq} {l : List (Tq × Value)} {T : Value} {x : Tq × Value}
theorem Ep.keep (h : Ep F w a now l T) (hb : ∀ b, F b → w'.heap[b]? = w.heap[b]?) (hs : w.heap.size ≤ w'.heap.size) : Ep F w' a now l T :=
  ⟨fun b e => Nat.lt_of_lt_of_le (h.lt b e) hs, (hb a h.fa).trans h.head, h.fa, h.qs.keep hb⟩
theorem Ep.below (h : Ep F w a now l T) (hb : Below w.heap.size w w') : Ep F w' a now l T := h.keep (fun b hF => hb.block b (h.lt b hF)) hb.size
theorem Ep.only (h : Ep F w a now l T) (hb : Only G w w') (hd : ∀ b, F b → ¬ G b) : Ep F w' a now l T := h.keep (fun b hF => hb.block b (h.lt b hF) (hd b hF)) hb.size
theorem EpS.below (h : EpS F w a now S) (hb : Below w.heap.size w w') : EpS F w' a now S := by obtain ⟨l, T, h, e⟩ := h; exact ⟨l, T, h.below hb, e⟩
theorem EpS.only (h : EpS F w a now S) (hb : Only G w w') (hd : ∀ b, F b → ¬ G b) : EpS F w' a now S := by obtain ⟨l, T, h, e⟩ := h; exact ⟨l, T, h.only hb hd, e⟩
theorem EpS.lt (h : EpS F w a now S) : ∀ b, F b → b < w.heap.size := by obtain ⟨l, T, h, e⟩ := h; exact h.lt
theorem NxE.same (h : EpS F w a now S) : NxE F w a now S w := ⟨F, h, Only.refl _ _, fun _ e => .inl e⟩
theorem NxE.of_below (h : EpS F w a now S) (hb : Below w.heap.size w w') : NxE F w a now S w' := ⟨F, h.below hb, Only.of_below F hb, fun _ e => .inl e⟩
theorem Ep.cells (h : Ep F w a now l T) : w.cell? ⟨a, 0, none⟩ = some (.int .i64 now) ∧ w.cell? ⟨a, 1, none⟩ = some T := by
  refine ⟨?_, ?_⟩ <;> (rw [cell_of_row w a _ _ _ (0, 0) h.head]; rfl)
theorem Ep.free (h : Ep F w a now l T) (j : Nat) : w.frozen? ⟨a, j, none⟩ = false := frozen_of_row w a j _ _ h.head
theorem Ep.tyA (h : Ep F w a now l T) : Ty w a epT := ⟨_, h.head⟩
theorem ep_ne : epT ≠ goT ∧ epT ≠ onT ∧ onT ≠ goT := by decide
/-- The next epoch. -/
theorem Ep.next (h : Ep F w a now l T) (n : Int) : Ep F (w.setCell ⟨a, 0, none⟩ (.int .i64 n)) a n l T ∧ Only F w (w.setCell ⟨a, 0, none⟩ (.int .i64 n)) := by
  obtain ⟨n1, n2, n3⟩ := ep_ne
  refine ⟨⟨fun b e => by simpa using h.lt b e, heap_setCell_same w a 0 _ _ _ h.head, h.fa, ?_⟩, Only.set F w (p := ⟨a, 0, none⟩) h.fa _⟩
  refine ⟨own_set h.qs.row h.tyA n2 _, h.qs.frow, fun x hx => (h.qs.que x hx).at_ fun b e => heap_setCell_other w ⟨a, 0, none⟩ b _ (fun eb => n1 (h.tyA.one (by subst eb; exact (h.qs.que x hx).ty e))), h.qs.fque, h.qs.sep⟩
/-- A thread's cells. -/
theorem Ep.at_ (h : Ep F w a now l T) (hi : l[i]? = some x) : ∃ g c, T = .slice (some ⟨g, 0, none⟩) l.length c ∧ g < w.heap.size ∧ l.length ≤ c ∧ i < l.length ∧ w.cell? ⟨g, i * 2, none⟩ = some (.int .i64 x.1.1) ∧ w.cell? ⟨g, i * 2 + 1, none⟩ = some x.2 ∧ ∀ j, w.frozen? ⟨g, j, none⟩ = false := by
  obtain ⟨g, c, hT, hg, -, -, hc, hcell, hf⟩ := h.qs.form hi
  have hil : i < l.length := (List.getElem?_eq_some_iff.1 hi).1
  have := cE_at hi
  exact ⟨g, c, hT, hg, hc, hil, by rw [hcell _ (by omega)]; exact this.1, by rw [hcell _ (by omega)]; exact this.2, hf⟩
theorem Ep.atT {g n c : Nat} (h : Ep F w a now l (.slice (some ⟨g, 0, none⟩) n c)) (hi : l[i]? = some x) : n = l.length ∧ w.cell? ⟨g, i * 2, none⟩ = some (.int .i64 x.1.1) ∧ w.cell? ⟨g, i * 2 + 1, none⟩ = some x.2 ∧ ∀ j, w.frozen? ⟨g, j, none⟩ = false := by
  obtain ⟨g', c', hT, -, -, -, h1, h2, h3⟩ := h.at_ hi
  injection hT with hT e1 _
  injection hT with hT
  injection hT with hT
  rw [hT]
  exact ⟨e1, h1, h2, h3⟩
/-- It announces z. -/
theorem Ep.said (h : Ep F w a now l T) (hi : l[i]? = some x) (z : Int) {g c : Nat} (hT : T = .slice (some ⟨g, 0, none⟩) l.length c) :
    Ep F (w.setCell ⟨g, i * 2, none⟩ (.int .i64 z)) a now (l.set i ((z, x.1.2), x.2)) T ∧ Only F w (w.setCell ⟨g, i * 2, none⟩ (.int .i64 z)) := by
  obtain ⟨n1, n2, n3⟩ := ep_ne
  have hil : i < l.length := (List.getElem?_eq_some_iff.1 hi).1
  obtain ⟨h1, h2, h3, h4, h5, h6⟩ := h.qs.put hi (k := i * 2) (u := .int .i64 z) (v := x.2) (y := (z, x.1.2)) (G := F) (by omega) (cE_set0 hi z) (World.grownBy.refl _ _) (h.qs.que x (List.mem_of_getElem? hi)) (fun b e => .inl e) h.lt n3 (fun _ e => e) (h.qs.fque x (List.mem_of_getElem? hi)) hT
  exact ⟨⟨fun b e => by simpa using h.lt b e, (h6 a _ h.tyA n1 n2).trans h.head, h.fa, h1⟩, h2⟩
/-- Its queue is another one. -/
theorem Ep.queue (h : Ep F w a now l T) (hi : l[i]? = some x) {v : Value} {q : List (Int × Int)} (hg : w.grownBy w' x.2.ownBlock) (hq : Qu goT w' v q) (hb : ∀ b, v.ownBlock = some b → x.2.ownBlock = some b ∨ w.heap.size ≤ b)
    {g c : Nat} (hT : T = .slice (some ⟨g, 0, none⟩) l.length c) :
    NxE F w a now ((l.map (·.1)).set i (x.1.1, q)) (w'.setCell ⟨g, i * 2 + 1, none⟩ v) ∧ w'.cell? ⟨g, i * 2 + 1, none⟩ = some x.2 ∧ w'.frozen? ⟨g, i * 2 + 1, none⟩ = false := by
  obtain ⟨n1, n2, n3⟩ := ep_ne
  have hil : i < l.length := (List.getElem?_eq_some_iff.1 hi).1
  obtain ⟨h1, h2, h3, h4, h5, h6⟩ := h.qs.put hi (k := i * 2 + 1) (u := v) (v := v) (y := (x.1.1, q)) (G := fun b => F b ∨ v.ownBlock = some b) (by omega) (cE_set1 hi q v) hg hq hb h.lt n3 (fun _ e => .inl e) (fun _ e => .inr e) hT
  refine ⟨⟨_, ⟨_, _, ⟨?_, (h6 a _ h.tyA n1 n2).trans h.head, .inl h.fa, h1⟩, by rw [List.map_set]⟩, h2, ?_⟩, by rw [h3]; exact (cE_at hi).2, h4⟩
  · rintro b (e | e)
    · exact Nat.lt_of_lt_of_le (h.lt b e) h5
    · simpa using hq.lt e
  · rintro b (e | e)
    · exact .inl e
    · exact (hb b e).imp (fun e => h.qs.fque x (List.mem_of_getElem? hi) b e) id
end
end Go.Proofs.YtcegianjpifnbaaGreat
namespace Go.Proofs.YtcegianjpifnbaaGreat
open Go.ChangeShapes Go.WideShapes Go.ChangeAt Go.RowKit
set_option linter.unusedVariables false
set_option linter.unusedSimpArgs false
set_option maxRecDepth 20000

section
variable {F G : Nat → Prop} {w w' : World} {a i : Nat} {now : Int} {S : List Tq} {l : List (Tq × Value)} {T : Value} {x : Tq × Value}
end

section
variable {F G : Nat → Prop} {w w' : World} {a i : Nat} {now t z : Int} {S : List Tq} {q : List (Int × Int)} {s : Int}
theorem EpS.at_ (h : EpS F w a now S) {y : Tq} (hi : S[i]? = some y) : ∃ l T x, Ep F w a now l T ∧ S = l.map (·.1) ∧ l[i]? = some x ∧ x.1 = y := by
  obtain ⟨l, T, h, rfl⟩ := h
  rw [List.getElem?_map] at hi
  cases e : l[i]? with
  | none => rw [e] at hi; cases hi
  | some x => rw [e] at hi; exact ⟨l, T, x, h, rfl, e, by simpa using hi⟩
end
end Go.Proofs.YtcegianjpifnbaaGreat
namespace Go.Proofs.YtcegianjpifnbaaGreat
open Go.ChangeShapes Go.WideShapes Go.ChangeAt Go.RowKit
set_option linter.unusedVariables false
set_option linter.unusedSimpArgs false
set_option maxRecDepth 20000

section
variable {F G : Nat → Prop} {w w' : World} {a i : Nat} {now t z at_ : Int} {S : List Tq} {q : List (Int × Int)} {s : Int}
theorem nx_after {W : World} (hb : Below w.heap.size w W) (h : NxE F W a now S w') : NxE F w a now S w' := by
  obtain ⟨F', h1, h2, h3⟩ := h
  exact ⟨F', h1, (Only.of_below F hb).then h2, fun b e => (h3 b e).imp id (fun e => Nat.le_trans hb.size e)⟩
/-- Ready: by three, or more, above. -/
def rdy (at_ now : Int) : Bool := decide (at_ + 3 ≤ now)
end
end Go.Proofs.YtcegianjpifnbaaGreat
namespace Go.Proofs.YtcegianjpifnbaaGreat
open Go.ChangeShapes Go.WideShapes Go.ChangeAt Go.RowKit
set_option linter.unusedVariables false
set_option linter.unusedSimpArgs false
set_option maxRecDepth 20000

def mostOf (m : Int) : Nat := (min (max m 0) 64).toNat
theorem mostOf_le (m : Int) : mostOf m ≤ 64 := by unfold mostOf; omega
theorem mostOf_eq (m : Int) : min (max m 0) 64 = (mostOf m : Int) := by unfold mostOf; omega
/-- n threads, of which k have announced -1. -/
def ini (k n : Nat) : List (Tq × Value) := List.replicate k ((-1, []), .slice none 0 0) ++ List.replicate (n - k) ((0, []), .slice none 0 0)
theorem ini_length {k n : Nat} (h : k ≤ n) : (ini k n).length = n := by simp [ini]; omega
theorem ini_at {k n : Nat} (h : k < n) : (ini k n)[k]? = some ((0, []), .slice none 0 0) := by
  unfold ini
  rw [List.getElem?_append_right (by simp)]
  simp [List.getElem?_replicate]
  omega
theorem ini_set {k n : Nat} (h : k < n) : (ini k n).set k ((-1, []), .slice none 0 0) = ini (k + 1) n := by
  apply List.ext_getElem?
  intro j
  rw [List.getElem?_set]
  unfold ini
  by_cases hj : k = j
  · subst hj
    rw [if_pos rfl, if_pos (by simp; omega), List.getElem?_append_left (by simp)]
    simp [List.getElem?_replicate]
  · rw [if_neg hj]
    by_cases h1 : j < k
    · rw [List.getElem?_append_left (by simpa using h1), List.getElem?_append_left (by simp; omega)]
      rw [List.getElem?_replicate, List.getElem?_replicate, if_pos h1, if_pos (by omega)]
    · rw [List.getElem?_append_right (by simp; omega), List.getElem?_append_right (by simp; omega)]
      simp [List.getElem?_replicate]
      by_cases h2 : j < n
      · rw [if_pos (by omega), if_pos (by omega)]
      · rw [if_neg (by omega), if_neg (by omega)]
theorem ini_end (n : Nat) : (ini n n).map (·.1) = List.replicate n (-1, []) := by simp [ini]
theorem ini_nil {k n : Nat} : ∀ x ∈ ini k n, x.1.2 = [] ∧ x.2 = .slice none 0 0 := by
  intro x hx
  unfold ini at hx
  rw [List.mem_append, List.mem_replicate, List.mem_replicate] at hx
  rcases hx with ⟨_, rfl⟩ | ⟨_, rfl⟩ <;> exact ⟨rfl, rfl⟩
theorem cE_ini (n : Nat) : (madeCells #[.int .i64 0, .slice none 0 0] (n * 2)).toList = cE (ini 0 n) := by
  apply List.ext_getElem?
  intro j
  by_cases hj : j < n * 2
  · have hi : (ini 0 n)[j / 2]? = some ((0, []), .slice none 0 0) := by
      unfold ini
      simp [List.getElem?_replicate]
      omega
    obtain ⟨h0, h1⟩ := cE_at hi
    have e : (madeCells #[.int .i64 0, .slice none 0 0] (n * 2)).toList[j]? = some ((#[.int .i64 0, .slice none 0 0] : Array Value)[j % 2]!) := by
      simp [madeCells, hj]
    rw [e]
    obtain h2 | h2 : j % 2 = 0 ∨ j % 2 = 1 := by omega
    · rw [h2]
      have : j = j / 2 * 2 := by omega
      rw [this, h0]
      rfl
    · rw [h2]
      have : j = j / 2 * 2 + 1 := by omega
      rw [this, h1]
      rfl
  · rw [List.getElem?_eq_none (by rw [Array.length_toList, size_madeCells]; omega), List.getElem?_eq_none (by rw [cE_length, ini_length (by omega)]; omega)]
theorem one_info : (Tryz.prog.info? onT).map (fun i => (i.zero, i.size, i.bytes)) = some (some (.agg #[.int .i64 0, .slice none 0 0]), 2, 32) := by kernel_rfl
theorem one_under : Tryz.prog.underlying 112 = some (.slice onT) := Tryz.underlying112
theorem run_mk (n : Nat) (hn : n ≤ 64) (W : World) : (Instr.makeSlice 112 (.int .i64 (n : Int)) (.int .i64 (n : Int))).run Tryz.prog W = .ok (.slice (some ⟨W.heap.size, 0, none⟩) n n) (W.alloc (.cells (madeCells #[.int .i64 0, .slice none 0 0] (n * 2)) onT)) := by
  obtain ⟨i0, hi0, hz0, hz1, hz2⟩ := info_parts one_info
  have := run_make (P := Tryz.prog) W 112 onT i0 _ one_under hi0 hz0 .i64 .i64 (n : Int) (n : Int) (by omega) (Int.le_refl _) (by rw [hz2]; omega) (by omega)
  rw [hz1] at this
  rw [this]
  rfl
theorem ep_new (w : World) (n : Nat) (hn : n ≤ 64) : Ep (fun b => b = w.heap.size ∨ b = w.heap.size + 1) ((w.alloc (.cells (madeCells #[.int .i64 0, .slice none 0 0] (n * 2)) onT)).alloc (.cells #[.int .i64 0, .slice (some ⟨w.heap.size, 0, none⟩) n n] epT)) (w.heap.size + 1) 0 (ini 0 n) (.slice (some ⟨w.heap.size, 0, none⟩) n n) := by
  have h1 : (w.alloc (.cells (madeCells #[.int .i64 0, .slice none 0 0] (n * 2)) onT)).ownsRow 0 onT 2 (.slice (some ⟨w.heap.size, 0, none⟩) n n) n (madeCells #[.int .i64 0, .slice none 0 0] (n * 2)).toList := World.ownsRow_lit w _ n (Nat.zero_le _) (by unfold maxLen; omega) (size_madeCells _ _)
  refine ⟨fun b e => by simp; omega, h_new (by simp), .inr rfl, ?_, ?_, ?_, ?_, ?_⟩
  · rw [ini_length (by omega), ← cE_ini]
    exact own_at h1 fun b e => Below.heap_alloc _ _ b (World.ownsRow.lt h1 b e).2
  · intro b e; injection e with e; exact .inl e.symm
  · intro x hx
    obtain ⟨e1, e2⟩ := ini_nil x hx
    rw [e1, e2]; exact Qu.nil _ _
  · intro x hx b e
    obtain ⟨e1, e2⟩ := ini_nil x hx
    rw [e2] at e; cases e
  · intro i j x y g hi hj e
    obtain ⟨e1, e2⟩ := ini_nil x (List.mem_of_getElem? hi)
    rw [e2] at e; cases e

/-- New epochs of n threads. -/
def NewE (w : World) (n : Nat) (e : Ending) (w' : World) : Prop := ∃ a F, e = .returned (ptr a) ∧ EpS F w' a 0 (List.replicate n (-1, [])) ∧ (∀ b, F b → w.heap.size ≤ b) ∧ Below w.heap.size w w'
set_option maxHeartbeats 1000000 in
theorem epNew_walk (m : Int) (w : World) : Calls Tryz.prog 37 #[.int .i64 m] w (NewE w (mostOf m)) := by
  have hm := mostOf_eq m
  have hn := mostOf_le m
  generalize mostOf m = n at *
  have hmk := run_mk n hn
  obtain ⟨W, b, F, hW, hb, hF, hbW, hE⟩ : ∃ (W : World) (b : Nat) (F : Nat → Prop), (w.alloc (.cells (madeCells #[.int .i64 0, .slice none 0 0] (n * 2)) onT)).alloc (.cells #[.int .i64 0, .slice (some ⟨w.heap.size, 0, none⟩) n n] epT) = W ∧ w.heap.size + 1 = b ∧ (∀ b, F b → w.heap.size ≤ b) ∧ Below w.heap.size w W ∧ Ep F W b 0 (ini 0 n) (.slice (some ⟨w.heap.size, 0, none⟩) n n) :=
    ⟨_, _, _, rfl, rfl, fun b e => by rcases e with e | e <;> omega, ((Below.refl _ w).alloc (Nat.le_refl _) _).alloc (by simp) _, ep_new w n hn⟩
  obtain ⟨c0, c1⟩ := hE.cells
  have HE := Lib.hid hE
  have HF := Lib.hid hF
  have HB := Lib.hid hbW
  clear hE hF hbW c0
  obtain ⟨g, hg⟩ : ∃ g, w.heap.size = g := ⟨_, rfl⟩
  rw [hg] at hW HE c1 hb
  go_enter Tryz.func37, Tryz.ntmps37
  go_wp2_with fail
  clear hW hb hmk hm hg c1
  have HN := Lib.hid HB.out
  go_loopg [16] n (fun gk i wr => ∃ k : Nat, k + gk = n ∧ i = .int .i64 (k : Int) ∧ Hid (Ep F wr b 0 (ini k n) (.slice (some ⟨g, 0, none⟩) n n) ∧ Below w.heap.size w wr))
  case atStart => exact ⟨0, by omega, rfl, HE.out, HB.out⟩
  case round =>
    clear HE HB HN
    obtain ⟨k, hk, rfl, HH⟩ := hrel
    by_cases hlt : k < n
    case neg =>
      have i1 : ¬ ((k : Int) < (n : Int)) := by omega
      obtain rfl : k = n := by omega
      have HEND : Hid (NewE w k (.returned (ptr b)) wr) := ⟨b, F, rfl, ⟨_, _, HH.out.1, (ini_end k).symm⟩, HF.out, HH.out.2⟩
      clear HH HF
      go_wp2
      go_ret
      exact HEND.out
    have hx := ini_at hlt
    obtain ⟨c0, c1⟩ := HH.out.1.cells
    obtain ⟨-, d0, d1, hf⟩ := HH.out.1.atT hx
    have f0 := hf (k * 2)
    have h2 := HH.out.1.said hx (-1) (g := g) (c := n) (by rw [ini_length (by omega)])
    rw [ini_set hlt] at h2
    have H2 : Hid (Ep F (wr.setCell ⟨g, k * 2, none⟩ (.int .i64 (-1))) b 0 (ini (k + 1) n) (.slice (some ⟨g, 0, none⟩) n n) ∧ Below w.heap.size w (wr.setCell ⟨g, k * 2, none⟩ (.int .i64 (-1)))) := ⟨h2.1, HH.out.2.trans (h2.2.below HF.out HH.out.2.size)⟩
    have i0 : (0 : Int) ≤ (k : Int) := by omega
    have i1 : (k : Int) < (n : Int) := by omega
    have hkw : IntKind.i64.wrap ((k : Int) + 1) = (k : Int) + 1 := IntWalk.i64_in _ (by omega)
    clear HH hx h2 hf c0 d1
    go_wp2
    go_roundg (gk - 1)
    case measure => omega
    case rel => exact ⟨k + 1, by omega, by go_num, H2.out⟩
end Go.Proofs.YtcegianjpifnbaaGreat
namespace Go.Proofs.YtcegianjpifnbaaGreat
open Go.ChangeShapes Go.WideShapes Go.ChangeAt Go.RowKit
set_option linter.unusedVariables false
set_option linter.unusedSimpArgs false
set_option maxRecDepth 20000

/-- How many nodes wait, of all threads. -/
def tot (S : List Tq) : Nat := (S.map (·.2.length)).sum
/-- Few threads, short queues. -/
def Few (S : List Tq) : Prop := S.length ≤ 64 ∧ ∀ x ∈ S, x.2.length ≤ 1000
theorem tot_take {S : List Tq} {k : Nat} {x : Tq} (h : S[k]? = some x) : tot (S.take (k + 1)) = tot (S.take k) + x.2.length := by
  have hk : k < S.length := (List.getElem?_eq_some_iff.1 h).1
  have e : S[k] = x := (List.getElem?_eq_some_iff.1 h).2
  unfold tot
  rw [List.take_succ_eq_append_getElem hk, e]
  simp
theorem tot_le {S : List Tq} (h : ∀ x ∈ S, x.2.length ≤ 1000) : tot S ≤ S.length * 1000 := by
  induction S with
  | nil => simp [tot]
  | cons x S ih =>
    have h1 := h x (List.mem_cons_self ..)
    have h2 := ih fun y hy => h y (List.mem_cons_of_mem _ hy)
    simp [tot] at h2 ⊢
    omega
theorem tot_few {S : List Tq} (h : Few S) (k : Nat) : tot (S.take k) ≤ 64000 := by
  have := tot_le (S := S.take k) fun x hx => h.2 x (List.mem_of_mem_take hx)
  have h2 := h.1
  rw [List.length_take] at this
  have : min k S.length * 1000 ≤ 64 * 1000 := Nat.mul_le_mul_right _ (by omega)
  omega

section
variable {F G : Nat → Prop} {w w' : World} {a i : Nat} {now : Int} {S : List Tq}
end
end Go.Proofs.YtcegianjpifnbaaGreat
