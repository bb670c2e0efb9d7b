/-
  Words for InnerKeeps: rows of whatever numbers that are written while old things stay; what inner's calls make of a right one.
-/
import Derived.Test.YtpbbkfpapmomhaaLawsA
import Derived.Test.YtpbbkfpapmomhaaHalves3
namespace Go.Proofs.Ytpbbkfpapmomhaa
open Go.ChangeShapes Go.WideShapes Go.ChangeAt Go.RowKit
set_option linter.unusedVariables false
set_option linter.unusedSimpArgs false

theorem sl_trio {W : World} {g : Nat} {x y z : Int} (h1 : W.cell? ⟨g, 0, none⟩ = some (.int .i64 x)) (h2 : W.cell? ⟨g, 1, none⟩ = some (.int .i64 y)) (h3 : W.cell? ⟨g, 2, none⟩ = some (.int .i64 z)) : Sl W (some ⟨g, 0, none⟩) 3 3 [x, y, z] := by
  refine ⟨rfl, Nat.le_refl _, fun e => (by cases e), .inr ⟨g, 0, rfl, fun j u hj => ?_⟩⟩
  match j, hj with
  | 0, hj => simp at hj; subst hj; exact h1
  | 1, hj => simp at hj; subst hj; exact h2
  | 2, hj => simp at hj; subst hj; exact h3

/-- Some row of elements el at block base or above. -/
def RowE (el : TypeId) (base : Nat) (w : World) (v : Value) : Prop := ∃ zs, Row el base w v zs ∧ zs.length ≤ 1000
theorem Row.some_ {el : TypeId} {base : Nat} {w : World} {v : Value} {zs : List Int} (h : Row el base w v zs) (hl : zs.length ≤ 1000) : RowE el base w v := ⟨zs, h, hl⟩
theorem RowE.lower {el : TypeId} {base base' : Nat} {w : World} {v : Value} (h : RowE el base w v) (hb : base' ≤ base) : RowE el base' w v := by
  obtain ⟨zs, h1, h2⟩ := h; exact ⟨zs, h1.lower hb, h2⟩
theorem RowE.next {el : TypeId} {base : Nat} {w w' : World} {v : Value} (h : RowE el base w v) (hb : Below w.heap.size w w') : RowE el base w' v := by
  obtain ⟨zs, h1, h2⟩ := h; exact ⟨zs, h1.next hb, h2⟩
/-- Whatever number is written wherever, it is some row still. -/
theorem RowE.set_ {el : TypeId} {base : Nat} {w : World} {v : Value} (h : RowE el base w v) (g j : Nat) (z : Int) : RowE el base (w.setCell ⟨g, j, none⟩ (.int .i64 z)) v := by
  obtain ⟨zs, h1, h2⟩ := h
  by_cases hg : v.ownBlock = some g
  · rcases h1.2 with ⟨rfl, _⟩ | ⟨g', cap, cur, rfl, _⟩
    · simp [Value.ownBlock] at hg
    · simp [Value.ownBlock] at hg
      subst hg
      exact ⟨_, (h1.set_ j z).1, by simpa using h2⟩
  · exact ⟨zs, h1.grown (grown_set w ⟨g, j, none⟩ _) (.inr hg), h2⟩
theorem RowE.form {el : TypeId} {base : Nat} {w : World} {v : Value} (h : RowE el base w v) : ∃ A n c, v = .slice A n c ∧ n ≤ 1000 ∧ (0 < n → ∃ g, A = some ⟨g, 0, none⟩ ∧ base ≤ g ∧ ∃ cur, w.heap[g]? = some (.cells cur el (0, 0)) ∧ n ≤ cur.size) := by
  obtain ⟨zs, h1, h2⟩ := h
  rcases h1.2 with ⟨rfl, h0⟩ | ⟨g, cap, cur, rfl, hb, hg, hc, _, hs, _⟩
  · exact ⟨none, 0, 0, rfl, by omega, fun h => absurd h (by omega)⟩
  · exact ⟨_, _, cap, rfl, h2, fun _ => ⟨g, rfl, hb, cur, hg, by omega⟩⟩

/-- What holds while the rows are written: old things are as they were, the list of the rows lies as it lay, every row may be written. -/
structure InvK (V wr : World) (gL : Nat) (vs : Array Value) : Prop where
  old : Below V.heap.size V wr
  lst : wr.heap[gL]? = some (.cells vs 26 (0, 0))
  keys : ∀ (j : Nat) (v : Value), j < 7 → vs[j * 2]? = some v → RowE 2 V.heap.size wr v
  ways : ∀ (j : Nat) (v : Value), j < 7 → vs[j * 2 + 1]? = some v → RowE 35 V.heap.size wr v
theorem heap_kept {wr : World} {b g j : Nat} {el : TypeId} {cur cs : Array Value} {z : Value} (hb : wr.heap[b]? = some (.cells cs 26 (0, 0))) (hg : wr.heap[g]? = some (.cells cur el (0, 0))) (hne : el ≠ 26) : (wr.setCell ⟨g, j, none⟩ z).heap[b]? = some (.cells cs 26 (0, 0)) := by
  have h : b ≠ g := by
    rintro rfl
    rw [hb] at hg
    injection hg with hg
    injection hg with _ ht
    exact hne ht.symm
  exact (heap_setCell_other wr ⟨g, j, none⟩ b z h).trans hb
theorem InvK.set_ {V wr : World} {gL : Nat} {vs : Array Value} (h : InvK V wr gL vs) {g : Nat} (j : Nat) {el : TypeId} {cur : Array Value} (hg : V.heap.size ≤ g) (hh : wr.heap[g]? = some (.cells cur el (0, 0))) (hne : el ≠ 26) (z : Int) : InvK V (wr.setCell ⟨g, j, none⟩ (.int .i64 z)) gL vs :=
  ⟨h.old.setCell (p := ⟨g, j, none⟩) hg _, heap_kept h.lst hh hne, fun k v hk hv => (h.keys k v hk hv).set_ g j z, fun k v hk hv => (h.ways k v hk hv).set_ g j z⟩
theorem InvK.alloc {V wr : World} {gL : Nat} {vs : Array Value} (h : InvK V wr gL vs) (o : Obj) : InvK V (wr.alloc o) gL vs :=
  ⟨h.old.alloc h.old.size o, h_old h.lst, fun k v hk hv => (h.keys k v hk hv).next (below_new wr o), fun k v hk hv => (h.ways k v hk hv).next (below_new wr o)⟩
theorem InvK.cell {V wr : World} {gL : Nat} {vs : Array Value} (h : InvK V wr gL vs) (j : Nat) : wr.cell? ⟨gL, j, none⟩ = vs[j]? := cell_of_row wr gL j vs _ (0, 0) h.lst

/-- Two rows that a call has made, of whatever numbers. -/
def MadeE (w : World) (e : Ending) (w' : World) : Prop := ∃ u v, e = .returned (.agg #[u, v]) ∧ RowE 2 w.heap.size w' u ∧ RowE 35 w.heap.size w' v ∧ Below w.heap.size w w'
theorem MadeI.some_ {w : World} {ks ws : List Int} {e : Ending} {w' : World} (h : MadeI w ks ws e w') (h1 : ks.length ≤ 1000) (h2 : ws.length ≤ 1000) : MadeE w e w' := by
  obtain ⟨u, v, he, r1, r2, hb⟩ := h
  exact ⟨u, v, he, r1.some_ h1, r2.some_ h2, hb⟩

section
variable (A B : Option Addr) (n c m d : Nat) (ks ws : List Int) (k : Nat) (w : World) (hk : Sl w A n c ks) (hw : Sl w B m d ws) (hm : m ≤ 100) (hnm : n + 1 = m) (hkm : k < m)
include hk hw hm hnm hkm
theorem with_some (r : Int) : Calls Try.prog 22 #[inn A n c B m d, .int .i64 (k : Int), .int .i64 r] w (MadeE w) :=
  (with_in A B n c m d ks ws k r w hk hw (by omega) (by omega) ((fitsB_iff n m).2 hnm) hkm).mono fun e w' h => h.some_ (by have := hk.len; omega) (by have := hw.len; simp; omega)
theorem absorb_some : Calls Try.prog 25 #[inn A n c B m d, .int .i64 (k : Int), inn A n c B m d] w (MadeE w) :=
  (absorb_in A B A B n c m d n c m d ks ws ks ws k w hk hw hk hw (by omega) (by omega) (by omega) (by omega) ((fitsB_iff n m).2 hnm) ((fitsB_iff n m).2 hnm) hkm).mono fun e w' h => h.some_ (by have := hk.len; simp; omega) (by have := hw.len; simp; omega)
theorem merged_some (r : Int) : Calls Try.prog 30 #[inn A n c B m d, .int .i64 (k : Int), .int .i64 r] w (MadeE w) := by
  by_cases h2 : k + 1 < m
  · exact (merged_in A B n c m d ks ws k r w hk hw (by omega) (by omega) ((fitsB_iff n m).2 hnm) h2).mono fun e w' h => h.some_ (by have := hk.len; simp; omega) (by have := hw.len; simp; omega)
  · exact (merged_out A B n c m d ks ws (k : Int) r w hk hw (by omega) (by omega) (by rw [(fitsB_iff n m).2 hnm, Bool.true_and]; simp [hasTwoB]; omega)).mono fun e w' h => h.some_ (by have := hk.len; omega) (by have := hw.len; omega)
theorem turned_some (a x b : Int) : Calls Try.prog 31 #[inn A n c B m d, .int .i64 (k : Int), .int .i64 a, .int .i64 x, .int .i64 b] w (MadeE w) := by
  by_cases h2 : k + 1 < m
  · exact (turned_in A B n c m d ks ws k a x b w hk hw (by omega) (by omega) ((fitsB_iff n m).2 hnm) h2).mono fun e w' h => h.some_ (by have := hk.len; simp; omega) (by have := hw.len; simp; omega)
  · exact (turned_out A B n c m d ks ws (k : Int) a x b w hk hw (by omega) (by omega) (by rw [(fitsB_iff n m).2 hnm, Bool.true_and]; simp [hasTwoB]; omega)).mono fun e w' h => h.some_ (by have := hk.len; omega) (by have := hw.len; omega)
end
section
variable (A B : Option Addr) (n c m d : Nat) (ks ws : List Int) (w : World) (hk : Sl w A n c ks) (hw : Sl w B m d ws) (hm : m ≤ 100) (hnm : n + 1 = m)
include hk hw hm hnm
theorem join_some (x : Int) : Calls Try.prog 28 #[inn A n c B m d, .int .i64 x, inn A n c B m d] w (MadeE w) :=
  (join_walk A B A B n c m d n c m d ks ws ks ws x w hk hw hk hw (by omega) (by omega) (by omega) (by omega)).mono fun e w' h => h.some_ (by have := hk.len; simp; omega) (by have := hw.len; simp; omega)
theorem halves_some : Calls Try.prog 26 #[inn A n c B m d] w fun e w' => ∃ u v u' v' x, e = .returned (.tuple #[.agg #[u, v], .agg #[u', v'], .int .i64 x]) ∧ RowE 2 w.heap.size w' u ∧ RowE 35 w.heap.size w' v ∧ RowE 2 w.heap.size w' u' ∧ RowE 35 w.heap.size w' v' ∧ Below w.heap.size w w' := by
  have e1 := hk.len
  have e2 := hw.len
  by_cases h2 : 2 ≤ m
  · refine (halves_in A B n c m d ks ws w hk hw (by omega) (by omega) ((fitsB_iff n m).2 hnm) h2).mono ?_
    rintro e w' ⟨u, v, u', v', he, g1, g2, g3, g4, hb⟩
    exact ⟨u, v, u', v', _, he, g1.some_ (by simp; omega), g2.some_ (by simp; omega), g3.some_ (by simp; omega), g4.some_ (by simp; omega), hb⟩
  · refine (halves_out A B n c m d ks ws w hk hw (by omega) (by omega) (by simp; omega)).mono ?_
    rintro e w' ⟨u, v, u', v', he, g1, g2, g3, g4, hb⟩
    exact ⟨u, v, u', v', _, he, g1.some_ (by omega), g2.some_ (by omega), g3.some_ (by simp), g4.some_ (by simp), hb⟩
end

end Go.Proofs.Ytpbbkfpapmomhaa
