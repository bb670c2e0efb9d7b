/-
  A law's threads, by where they lie and what is left of them, beside cells that the law keeps; LlxRace's threads are started.
-/
import Derived.Test.YtoeilogakfggfaaRw10
import Derived.Test.YtoeilogakfggfaaSg10
namespace Go.Proofs.Ytoeilogakfggfaa
open Go.ChangeShapes Go.WideShapes Go.ChangeAt Go.RowKit
set_option linter.unusedVariables false
set_option linter.unusedSimpArgs false
set_option maxRecDepth 20000

/-- Threads, the world, the nodes' slice, cells that are kept. -/
def RG (W : World) (v : Value) (cs : List (Nat × Nat × Value)) (d : Wd) (k T : Nat) (s : Sig) (w : World) (ps : List (Nat × Ts)) : Prop := ∃ X hs os, MB W X d ps.length T hs os s w ∧ RowX X rfT w v (refN k) ∧ (∀ c ∈ cs, X c.1 ∧ w.cell? ⟨c.1, c.2.1, none⟩ = some c.2.2) ∧ PsR (ndsN k) hs os ps
section
variable {W : World} {X : Nat → Prop} {v : Value} {k T n : Nat} {d : Wd} {hs : Nat → Hp} {os : Nat → Ts} {s s' : Sig} {w w' : World} {ps : List (Nat × Ts)} {i a : Nat} {o : Ts} {nds : List (Int × Nd)} {cs cs' : List (Nat × Nat × Value)}
theorem RG.begin_ (h : LG W X v d k 0 0 h0 o0 s w) : RG W v [] d k 0 s w [] := ⟨X, h0, o0, h.mb, h.row, fun c e => (by cases e), fun i a o e => by cases e⟩
theorem RG.below (h : RG W v cs d k T s w ps) (hb : Below w.heap.size w w') : RG W v cs d k T s w' ps := by
  obtain ⟨X, hs, os, h1, h2, h3, h4⟩ := h
  exact ⟨X, hs, os, h1.below hb, h2.kp (h1.kb hb), fun c e => ⟨(h3 c e).1, below_read hb (h3 c e).2⟩, h4⟩
theorem RG.add (h : RG W v cs d k T s w ps) (hb : Below w.heap.size w w') (hn : ∀ c ∈ cs', w.heap.size ≤ c.1 ∧ w'.cell? ⟨c.1, c.2.1, none⟩ = some c.2.2) : RG W v (cs ++ cs') d k T s w' ps := by
  obtain ⟨X, hs, os, h1, h2, h3, h4⟩ := h
  refine ⟨fun q => X q ∨ ∃ c ∈ cs', q = c.1, hs, os, h1.more hb (fun q e => e.imp id fun ⟨c, hc, e⟩ => ⟨by rw [e]; exact (hn c hc).1, by rw [e]; exact World.block_lt_of_cell? _ _ (hn c hc).2⟩) (.inr fun q e => .inl e), (h2.kp (h1.kb hb)).mono fun b e => .inl e, fun c e => ?_, h4⟩
  rcases List.mem_append.1 e with e | e
  · exact ⟨.inl (h3 c e).1, below_read hb (h3 c e).2⟩
  · exact ⟨.inr ⟨c, e, rfl⟩, (hn c e).2⟩
theorem RG.cell (h : RG W v cs d k T s w ps) {b j : Nat} {u : Value} (hc : (b, j, u) ∈ cs) : w.cell? ⟨b, j, none⟩ = some u := by
  obtain ⟨X, hs, os, h1, h2, h3, h4⟩ := h
  exact (h3 _ hc).2
theorem RG.bel (h : RG W v cs d k T s w ps) : Below W.heap.size W w := by
  obtain ⟨X, hs, os, h1, h2, h3, h4⟩ := h
  exact h1.bel
theorem RG.cells (h : RG W v cs d k T s w ps) : w.cell? ⟨d.W, 0, none⟩ = some (ptr d.A) := by
  obtain ⟨X, hs, os, h1, h2, h3, h4⟩ := h
  exact h1.cells.1
theorem RG.ws (h : RG W v cs d k T s w ps) : ∃ FW, WS d FW w s := by
  obtain ⟨X, hs, os, h1, h2, h3, h4⟩ := h
  exact h1.ws
theorem RG.at_ {g m c : Nat} (h : RG W (.slice (some ⟨g, 0, none⟩) m c) cs d k T s w ps) {j : Nat} (hj : j < k) : w.cell? ⟨g, j, none⟩ = some (.int .i64 (rfN j)) := by
  obtain ⟨X, hs, os, h1, h2, h3, h4⟩ := h
  obtain ⟨g', c', hv, -, hc⟩ := h2.at_ (refN_at (k := k) (i := j) hj)
  injection hv with e5 e6 e4
  injection e5 with e5
  injection e5 with e5
  subst e5
  exact hc
/-- A Step. -/
theorem RG.step (h : RG W v cs d k T s w ps) (hi : ps[i]? = some (a, o)) (hP : o.done = false → Stt (ndsN k) 40 s ∧ Fit s) (hO : stO o s) (hT : T ≤ 440) :
    Calls Try.prog 36 #[ptr a] w fun e w' => e = .returned (.bool (nxT o s).1.done) ∧ RG W v cs d k (T + 1) (nxT o s).2 w' (ps.set i (a, (nxT o s).1)) := by
  obtain ⟨X, hs, os, h1, h2, h3, h5⟩ := h
  obtain ⟨g1, g2, g3⟩ := h5 i a o hi
  have hl := (List.getElem?_eq_some_iff.1 hi).1
  have := h1.me.step hl (by rw [g1, g3]; exact hP) (by rw [g1]; exact hO) hT
  rw [g1, g2] at this
  refine this.mono ?_
  rintro e w' ⟨rfl, k1, k2⟩
  exact ⟨rfl, X, hs, _, by rw [List.length_set]; exact h1.kp k1 k2, h2.kp k2, fun c e => ⟨(h3 c e).1, cell_same (k2.block c.1 (.inr (h3 c e).1)) (h3 c e).2⟩, h5.put hi⟩
/-- Alone, to its end. -/
theorem RG.alone {u : Tr (List Int)} {M : Nat} {b : List Int} (h : RG W v cs d k T s w ps) (hi : ps[i]? = some (a, .run u)) (hr : RJ (ndsN k) 40 2 u s) (hI : Inv 2 (M + 1) s) (hS : Stt (ndsN k) 40 s) (he : (ev u s).1 = b) (hm : (ev u s).2.2 ≤ M) (hT : T + M ≤ 430) (hlen : b.length ≤ 1000) :
    Calls Try.prog 11 #[ptr a] w fun e w' => ∃ A q c kz, e = .returned (.tuple #[.slice A q c, .int .i64 kz, .bool true]) ∧ RG W v cs d k (T + M + 1) (ev u s).2.1 w' (ps.set i (a, .fin b)) := by
  obtain ⟨X, hs, os, h1, h2, h3, h5⟩ := h
  obtain ⟨g1, g2, g3⟩ := h5 i a _ hi
  have hl := (List.getElem?_eq_some_iff.1 hi).1
  have := h1.alone (i := i) (M := M) (L := 2) (nds := ndsN k) (Mx := 40) hl (by rw [g1, nrm_nl hr.nl]) g3 hI hS hr.tj hr.kp hr.gd (Prod.ext he (Prod.ext rfl rfl)) hT hm hlen rfl
  rw [g2] at this
  refine this.mono ?_
  rintro e w' ⟨A, q, c, rfl, -, k1, k2⟩
  exact ⟨A, q, c, _, rfl, X, hs, _, by rw [List.length_set]; exact k1, h2.kp k2, fun c e => ⟨(h3 c e).1, cell_same (k2.block c.1 (.inr (h3 c e).1)) (h3 c e).2⟩, h5.put hi⟩
/-- Alone, at its end already. -/
theorem RG.alone_fin {b : List Int} (h : RG W v cs d k T s w ps) (hi : ps[i]? = some (a, .fin b)) (hT : T ≤ 440) (hlen : b.length ≤ 1000) :
    Calls Try.prog 11 #[ptr a] w fun e w' => ∃ A q c kz, e = .returned (.tuple #[.slice A q c, .int .i64 kz, .bool true]) ∧ RG W v cs d k (T + 1) s w' ps := by
  obtain ⟨X, hs, os, h1, h2, h3, h5⟩ := h
  obtain ⟨g1, g2, g3⟩ := h5 i a _ hi
  have hl := (List.getElem?_eq_some_iff.1 hi).1
  have := h1.me.alone_fin hl g1 hlen hT
  rw [g2] at this
  refine this.mono ?_
  rintro e w' ⟨A, q, c, rfl, -, k1, k2⟩
  exact ⟨A, q, c, _, rfl, X, hs, _, h1.kp k1 k2, h2.kp k2, fun c e => ⟨(h3 c e).1, cell_same (k2.block c.1 (.inr (h3 c e).1)) (h3 c e).2⟩, h5⟩
theorem kl_race {prs : List (Int × Nd)} {nw : Int} (hl : prs.length ≤ 20) (hn : in64 nw) : kpL nds 40 (tRace prs nw) :=
  kpL_bindR (kl_loads [] prs) (rets_loads [] prs) fun x hx => kl_if (kl_if (kpL_bind (kl_store (l := x.1) (by have h : x.1.length ≤ ([] : List Sn).length + prs.length := hx; simp at h; omega) hn) fun y => trivial) trivial) trivial
theorem good_race (prs : List (Int × Nd)) (nw : Int) (s : Sig) : good (tRace prs nw) s := by
  refine good_bind (good_loads [] prs s) fun x s' _ => ?_
  split
  · split
    · exact good_bind (good_store _ _ _ _ _ _ s') fun _ _ _ => trivial
    · exact trivial
  · exact trivial
theorem tj_race {L : Nat} (prs : List (Int × Nd)) (nw : Int) : tj nds 40 L (tRace prs nw) := tj_bind (tj_loads [] prs) fun x => tj_if (tj_if (tj_bind (tj_store (by omega) _) fun y => trivial) trivial) trivial
end
end Go.Proofs.Ytoeilogakfggfaa
