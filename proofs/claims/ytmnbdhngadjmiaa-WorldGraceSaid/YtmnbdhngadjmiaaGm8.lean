/-
  Threads that begin and end, in memory, side by side: Start, Step, Done of one of them.
-/
import Derived.Test.YtmnbdhngadjmiaaGr8
namespace Go.Proofs.Ytmnbdhngadjmiaa
open Go.ChangeShapes Go.WideShapes Go.ChangeAt Go.RowKit
set_option linter.unusedVariables false
set_option linter.unusedSimpArgs false
set_option maxRecDepth 20000

abbrev graF : Nat := 44
/-- A thread's place in the law's list: none; one at its end; or one that is at o. P are its blocks. -/
def ThS (d : Wd) (L T : Nat) (wr : World) (i : Nat) (P : Nat → Prop) (v : Value) : Option Pc → Prop
  | none => v = nilp ∨ ∃ a F st k O os, v = ptr a ∧ Th F wr a .nilFunc [] st O os 0 k (.slice none 0 0) ∧ ∀ b, F b → P b
  | some pc => ∃ a B1 B2 B3 zs F V k, v = ptr a ∧ Th F wr a (wkV B1 B2 B3) zs zs.length (.slice none 0 0) [] 0 k V ∧ Bx wr d.W i graF #[] B1 B2 B3 ∧ (∀ b, F b → P b) ∧ P B1 ∧ P B2 ∧ P B3 ∧ (¬ F B1 ∧ ¬ F B2 ∧ ¬ F B3) ∧ path (tBE 1000 L i) zs ∧ res (tBE 1000 L i) zs = trP L i pc ∧ (∀ z ∈ zs, in64 z) ∧ zs.length ≤ T
section
variable {d : Wd} {L T T' : Nat} {wr w' : World} {i : Nat} {P P' : Nat → Prop} {v : Value} {o : Option Pc}
theorem Bx.keep {W me g : Nat} {capw : Array Value} {B1 B2 B3 : Nat} (h : Bx wr W me g capw B1 B2 B3) (h1 : w'.heap[B1]? = wr.heap[B1]?) (h2 : w'.heap[B2]? = wr.heap[B2]?) (h3 : w'.heap[B3]? = wr.heap[B3]?) : Bx w' W me g capw B1 B2 B3 := ⟨cell_same h1 h.c1, cell_same h2 h.c2, cell_same h3 h.c3⟩
theorem ThS.keep (h : ThS d L T wr i P v o) (hb : ∀ b, P b → w'.heap[b]? = wr.heap[b]?) (hs : wr.heap.size ≤ w'.heap.size) (hT : T ≤ T') : ThS d L T' w' i P v o := by
  cases o with
  | none =>
    rcases h with h | ⟨a, F, st, k, O, os, h1, h2, h3⟩
    · exact .inl h
    · exact .inr ⟨a, F, st, k, O, os, h1, h2.keep (fun b e => hb b (h3 b e)) hs, h3⟩
  | some pc =>
    obtain ⟨a, B1, B2, B3, zs, F, V, k, h1, h2, h3, h4, h5, h6, h7, h8, h9, h10, h11, h12⟩ := h
    exact ⟨a, B1, B2, B3, zs, F, V, k, h1, h2.keep (fun b e => hb b (h4 b e)) hs, h3.keep (hb _ h5) (hb _ h6) (hb _ h7), h4, h5, h6, h7, h8, h9, h10, h11, by omega⟩
end
abbrev lcells (L : Nat) (vs : Nat → Value) : Array Value := ((List.range L).map vs).toArray
abbrev scells (L : Nat) (since : Nat → Int) : Array Value := ((List.range L).map fun k => Value.int .i64 (since k)).toArray
/-- The law's memory. -/
structure GS (W : World) (d : Wd) (L T g1 g2 : Nat) (pcs : Nat → Option Pc) (since : Nat → Int) (s : Sig) (vs : Nat → Value) (FW : Nat → Prop) (P : Nat → Nat → Prop) (wr : World) : Prop where
  ws : WS d FW wr s
  below : Below W.heap.size W wr
  lrow : wr.heap[g1]? = some (.cells (lcells L vs) 55 (0, 0))
  srow : wr.heap[g2]? = some (.cells (scells L since) 2 (0, 0))
  fw : ∀ b, FW b → W.heap.size ≤ b ∧ b ≠ g1 ∧ b ≠ g2
  own : ∀ i, i < L → ∀ b, P i b → W.heap.size ≤ b ∧ b < wr.heap.size ∧ b ≠ g1 ∧ b ≠ g2 ∧ ¬ FW b
  sep : ∀ i j b, i < L → j < L → i ≠ j → P i b → ¬ P j b
  th : ∀ i, i < L → ThS d L T wr i (P i) (vs i) (pcs i)
  g : W.heap.size ≤ g1 ∧ W.heap.size ≤ g2 ∧ g1 ≠ g2
/-- The same, wherever. -/
def GE (W : World) (d : Wd) (L T g1 g2 : Nat) (pcs : Nat → Option Pc) (since : Nat → Int) (s : Sig) (vs : Nat → Value) (wr : World) : Prop := ∃ FW P, GS W d L T g1 g2 pcs since s vs FW P wr
section
variable {W : World} {d : Wd} {L T g1 g2 i : Nat} {pcs : Nat → Option Pc} {since : Nat → Int} {s s' : Sig} {vs : Nat → Value} {FW : Nat → Prop} {P : Nat → Nat → Prop} {wr w' : World}
theorem lcells_set (vs : Nat → Value) (hi : i < L) (v : Value) : (lcells L vs).setIfInBounds i v = lcells L (upd vs i v) := by
  simp only [lcells, List.setIfInBounds_toArray]
  congr 1
  apply List.ext_getElem?
  intro j
  rw [List.getElem?_set]
  by_cases e : i = j
  · subst e
    rw [if_pos rfl]
    simp [hi, upd]
  · rw [if_neg e]
    by_cases hj : j < L
    · simp [hj, upd, fun h : j = i => e h.symm]
      intro h; exact absurd h.symm e
    · simp [hj]
theorem scells_set (since : Nat → Int) (hi : i < L) (z : Int) : (scells L since).setIfInBounds i (.int .i64 z) = scells L (upd since i z) := by
  have := lcells_set (fun k => Value.int .i64 (since k)) hi (.int .i64 z)
  have e : upd (fun k => Value.int .i64 (since k)) i (.int .i64 z) = fun k => Value.int .i64 (upd since i z k) := by funext k; unfold upd; split <;> rfl
  rw [e] at this
  exact this
theorem GS.lcell (h : GS W d L T g1 g2 pcs since s vs FW P wr) (hi : i < L) : wr.cell? ⟨g1, i, none⟩ = some (vs i) ∧ wr.frozen? ⟨g1, i, none⟩ = false := by
  refine ⟨?_, frozen_of_row wr g1 i _ _ h.lrow⟩
  rw [cell_of_row wr g1 _ _ _ (0, 0) h.lrow]
  simp [lcells, hi]
theorem GS.scell (h : GS W d L T g1 g2 pcs since s vs FW P wr) (hi : i < L) : wr.cell? ⟨g2, i, none⟩ = some (.int .i64 (since i)) ∧ wr.frozen? ⟨g2, i, none⟩ = false := by
  refine ⟨?_, frozen_of_row wr g2 i _ _ h.srow⟩
  rw [cell_of_row wr g2 _ _ _ (0, 0) h.srow]
  simp [scells, hi]
/-- What one thread's Step leaves alone. -/
def Rf (W : World) (L g1 g2 i : Nat) (P : Nat → Nat → Prop) (b : Nat) : Prop := b < W.heap.size ∨ b = g1 ∨ b = g2 ∨ ∃ j, j < L ∧ j ≠ i ∧ P j b
theorem GS.rf (h : GS W d L T g1 g2 pcs since s vs FW P wr) : ∀ b, Rf W L g1 g2 i P b → b < wr.heap.size ∧ ¬ FW b := by
  rintro b (e | e | e | ⟨j, hj, -, e⟩)
  · exact ⟨Nat.lt_of_lt_of_le e h.below.size, fun f => by have := (h.fw b f).1; omega⟩
  · subst e; exact ⟨(Array.getElem?_eq_some_iff.1 h.lrow).1, fun f => (h.fw _ f).2.1 rfl⟩
  · subst e; exact ⟨(Array.getElem?_eq_some_iff.1 h.srow).1, fun f => (h.fw _ f).2.2 rfl⟩
  · exact ⟨(h.own j hj b e).2.1, (h.own j hj b e).2.2.2.2⟩
/-- Thread i is another one; all else is as it was. -/
theorem GS.other {T' : Nat} {FW' Q : Nat → Prop} {o : Option Pc} (h : GS W d L T g1 g2 pcs since s vs FW P wr) (hi : i < L) (hT : T ≤ T') (hK : Kp (Rf W L g1 g2 i P) wr w') (hws : WS d FW' w' s') (hFW : ∀ b, Rf W L g1 g2 i P b → ¬ FW' b)
    (hQ : ∀ b, Q b → b < w'.heap.size ∧ ¬ FW' b ∧ ¬ Rf W L g1 g2 i P b) (hth : ThS d L T' w' i Q (vs i) o) : GE W d L T' g1 g2 (upd pcs i o) since s' vs w' := by
  refine ⟨FW', upd P i Q, hws, h.below.trans ⟨hK.os, hK.tape, hK.output, hK.size, fun b e => hK.block b (.inl e)⟩, (hK.block _ (.inr (.inl rfl))).trans h.lrow, (hK.block _ (.inr (.inr (.inl rfl)))).trans h.srow, ?_, ?_, ?_, ?_, h.g⟩
  · intro b f
    refine ⟨?_, fun e => hFW b (.inr (.inl e)) f, fun e => hFW b (.inr (.inr (.inl e))) f⟩
    by_cases e : b < W.heap.size
    · exact absurd f (hFW b (.inl e))
    · omega
  · intro j hj b hb
    by_cases e : j = i
    · subst e
      rw [upd_at] at hb
      obtain ⟨q1, q2, q3⟩ := hQ b hb
      refine ⟨?_, q1, fun e => q3 (.inr (.inl e)), fun e => q3 (.inr (.inr (.inl e))), q2⟩
      by_cases e : b < W.heap.size
      · exact absurd (.inl e) q3
      · omega
    · rw [upd_ne _ _ e] at hb
      have := h.own j hj b hb
      exact ⟨this.1, Nat.lt_of_lt_of_le this.2.1 hK.size, this.2.2.1, this.2.2.2.1, hFW b (.inr (.inr (.inr ⟨j, hj, e, hb⟩)))⟩
  · intro j k b hj hk hne hb hb2
    by_cases e : j = i
    · subst e
      rw [upd_at] at hb
      rw [upd_ne _ _ (fun e => hne e.symm)] at hb2
      exact (hQ b hb).2.2 (.inr (.inr (.inr ⟨k, hk, fun e => hne e.symm, hb2⟩)))
    · rw [upd_ne _ _ e] at hb
      by_cases e2 : k = i
      · subst e2
        rw [upd_at] at hb2
        exact (hQ b hb2).2.2 (.inr (.inr (.inr ⟨j, hj, e, hb⟩)))
      · rw [upd_ne _ _ e2] at hb2
        exact h.sep j k b hj hk hne hb hb2
  · intro j hj
    by_cases e : j = i
    · subst e
      rw [upd_at, upd_at]
      exact hth
    · rw [upd_ne _ _ e, upd_ne _ _ e]
      exact (h.th j hj).keep (fun b hb => hK.block b (.inr (.inr (.inr ⟨j, hj, e, hb⟩)))) hK.size hT
/-- The law's own stores. -/
theorem GS.lset {o : Option Pc} {v : Value} (h : GS W d L T g1 g2 pcs since s vs FW P wr) (hi : i < L) (hth : ThS d L T wr i (P i) v o) : GS W d L T g1 g2 (upd pcs i o) since s (upd vs i v) FW P (wr.setCell ⟨g1, i, none⟩ v) := by
  have hne : ∀ b, b ≠ g1 → (wr.setCell ⟨g1, i, none⟩ v).heap[b]? = wr.heap[b]? := fun b e => heap_setCell_other wr ⟨g1, i, none⟩ b v (fun e2 => e e2)
  have hsz : (wr.setCell ⟨g1, i, none⟩ v).heap.size = wr.heap.size := by simp
  refine ⟨h.ws.keep (fun b f => hne b (h.fw b f).2.1) (by omega), ?_, ?_, (hne _ (fun e => h.g.2.2 e.symm)).trans h.srow, h.fw, fun j hj b hb => by rw [hsz]; exact h.own j hj b hb, h.sep, ?_, h.g⟩
  · exact h.below.trans ⟨rfl, rfl, rfl, by simp, fun b e => hne b (by have := h.g.1; omega)⟩
  · rw [heap_setCell_same wr g1 i _ _ _ h.lrow, lcells_set vs hi]
  · intro j hj
    by_cases e : j = i
    · subst e
      rw [upd_at, upd_at]
      exact hth.keep (fun b hb => hne b (h.own j hj b hb).2.2.1) (by omega) (Nat.le_refl _)
    · rw [upd_ne _ _ e, upd_ne _ _ e]
      exact (h.th j hj).keep (fun b hb => hne b (h.own j hj b hb).2.2.1) (by omega) (Nat.le_refl _)
theorem GE.sset (h : GE W d L T g1 g2 pcs since s vs wr) (hi : i < L) (z : Int) : GE W d L T g1 g2 pcs (upd since i z) s vs (wr.setCell ⟨g2, i, none⟩ (.int .i64 z)) := by
  obtain ⟨FW, P, h⟩ := h
  have hne : ∀ b, b ≠ g2 → (wr.setCell ⟨g2, i, none⟩ (.int .i64 z)).heap[b]? = wr.heap[b]? := fun b e => heap_setCell_other wr ⟨g2, i, none⟩ b _ (fun e2 => e e2)
  have hsz : (wr.setCell ⟨g2, i, none⟩ (.int .i64 z)).heap.size = wr.heap.size := by simp
  refine ⟨FW, P, h.ws.keep (fun b f => hne b (h.fw b f).2.2) (by omega), ?_, (hne _ h.g.2.2).trans h.lrow, ?_, h.fw, fun j hj b hb => by rw [hsz]; exact h.own j hj b hb, h.sep, ?_, h.g⟩
  · exact h.below.trans ⟨rfl, rfl, rfl, by simp, fun b e => hne b (by have := h.g.2.1; omega)⟩
  · rw [heap_setCell_same wr g2 i _ _ _ h.srow, scells_set since hi]
  · intro j hj
    exact (h.th j hj).keep (fun b hb => hne b (h.own j hj b hb).2.2.2.1) (by omega) (Nat.le_refl _)
/-- Start of thread i, and the store into the list. -/
theorem GE.start (h : GE W d L T g1 g2 pcs since s vs wr) (hi : i < L) (hn : pcs i = none) : Calls Try.prog 25 #[ptr d.W, .int .i64 (i : Int), .func (.func graF) #[] #[]] wr fun e w1 => ∃ a, e = .returned (ptr a) ∧ w1.cell? ⟨g1, i, none⟩ = some (vs i) ∧ w1.frozen? ⟨g1, i, none⟩ = false ∧ GE W d L T g1 g2 (upd pcs i (some .p0)) since s (upd vs i (ptr a)) (w1.setCell ⟨g1, i, none⟩ (ptr a)) := by
  obtain ⟨FW, P, h⟩ := h
  have hid : Idle d (Rf W L g1 g2 i P) wr s := ⟨FW, h.ws, h.rf⟩
  refine (start_walk (me := i) (g := graF) (capw := #[]) hid).mono ?_
  rintro e w1 ⟨a, B1, B2, B3, rfl, hx, ⟨⟨k, F, FW', V, k1, k2, k3, k4⟩, -⟩, hb, l1, l2, l3, l4, l5⟩
  have hK : Kp (Rf W L g1 g2 i P) wr w1 := Kp.below hb (fun b e => (h.rf b e).1)
  -- thread i, forgotten for a moment
  have hG : GE W d L T g1 g2 (upd pcs i none) since s (upd vs i nilp) (w1.setCell ⟨g1, i, none⟩ nilp) → True := fun _ => trivial
  have hQ : ∀ b, (F b ∨ b = B1 ∨ b = B2 ∨ b = B3) → b < w1.heap.size ∧ ¬ FW' b ∧ ¬ Rf W L g1 g2 i P b := by
    rintro b (e | e | e | e)
    · exact ⟨k1.lt b e, k3 b e, fun r => (k4 b (.inl r)).2.1 e⟩
    · have r := k4 b (.inr (.inl e))
      exact ⟨r.1, r.2.2, fun r => by have := (h.rf b r).1; omega⟩
    · have r := k4 b (.inr (.inr (.inl e)))
      exact ⟨r.1, r.2.2, fun r => by have := (h.rf b r).1; omega⟩
    · have r := k4 b (.inr (.inr (.inr e)))
      exact ⟨r.1, r.2.2, fun r => by have := (h.rf b r).1; omega⟩
  have hT : ThS d L T w1 i (fun b => F b ∨ b = B1 ∨ b = B2 ∨ b = B3) (ptr a) (some .p0) :=
    ⟨a, B1, B2, B3, [], F, V, k, rfl, k1, hx, fun b e => .inl e, .inr (.inl rfl), .inr (.inr (.inl rfl)), .inr (.inr (.inr rfl)), ⟨fun e => (k4 B1 (.inr (.inl rfl))).2.1 e, fun e => (k4 B2 (.inr (.inr (.inl rfl)))).2.1 e, fun e => (k4 B3 (.inr (.inr (.inr rfl)))).2.1 e⟩, by simp [path], by simp [res, trP], fun z hz => (by cases hz), Nat.zero_le _⟩
  have hc : w1.cell? ⟨g1, i, none⟩ = some (vs i) ∧ w1.frozen? ⟨g1, i, none⟩ = false := by
    have hl := (hK.block g1 (.inr (.inl rfl))).trans h.lrow
    refine ⟨?_, frozen_of_row w1 g1 i _ _ hl⟩
    rw [cell_of_row w1 g1 _ _ _ (0, 0) hl]
    simp [lcells, hi]
  refine ⟨a, rfl, hc.1, hc.2, ?_⟩
  -- first with the old value in the list, as one at no place
  have hold : ∃ Q : Nat → Prop, (∀ b, ¬ Q b) ∧ ThS d L T w1 i Q nilp none := ⟨fun _ => False, fun _ h => h, .inl rfl⟩
  have hne : ∀ b, b ≠ g1 → (w1.setCell ⟨g1, i, none⟩ (ptr a)).heap[b]? = w1.heap[b]? := fun b e => heap_setCell_other w1 ⟨g1, i, none⟩ b _ (fun e2 => e e2)
  have hsz : (w1.setCell ⟨g1, i, none⟩ (ptr a)).heap.size = w1.heap.size := by simp
  have hRg : ∀ b, Rf W L g1 g2 i P b → ¬ FW' b := fun b r => (k4 b (.inl r)).2.2
  refine ⟨FW', upd P i (fun b => F b ∨ b = B1 ∨ b = B2 ∨ b = B3), k2.keep (fun b f => hne b (fun e => hRg b (.inr (.inl e)) f)) (by omega), ?_, ?_, (hne _ (fun e => h.g.2.2 e.symm)).trans ((hK.block _ (.inr (.inr (.inl rfl)))).trans h.srow), ?_, ?_, ?_, ?_, h.g⟩
  · exact (h.below.trans (hb.mono h.below.size)).trans ⟨rfl, rfl, rfl, by simp, fun b e => hne b (by have := h.g.1; omega)⟩
  · rw [heap_setCell_same w1 g1 i _ _ _ ((hK.block _ (.inr (.inl rfl))).trans h.lrow), lcells_set vs hi]
  · intro b f
    refine ⟨?_, fun e => hRg b (.inr (.inl e)) f, fun e => hRg b (.inr (.inr (.inl e))) f⟩
    by_cases e : b < W.heap.size
    · exact absurd f (hRg b (.inl e))
    · omega
  · intro j hj b hbj
    rw [hsz]
    by_cases e : j = i
    · subst e
      rw [upd_at] at hbj
      obtain ⟨q1, q2, q3⟩ := hQ b hbj
      refine ⟨?_, q1, fun e => q3 (.inr (.inl e)), fun e => q3 (.inr (.inr (.inl e))), q2⟩
      by_cases e : b < W.heap.size
      · exact absurd (.inl e) q3
      · omega
    · rw [upd_ne _ _ e] at hbj
      have := h.own j hj b hbj
      exact ⟨this.1, Nat.lt_of_lt_of_le this.2.1 hK.size, this.2.2.1, this.2.2.2.1, hRg b (.inr (.inr (.inr ⟨j, hj, e, hbj⟩)))⟩
  · intro j k b hj hk hjk hb1 hb2
    by_cases e : j = i
    · subst e
      rw [upd_at] at hb1
      rw [upd_ne _ _ (fun e => hjk e.symm)] at hb2
      exact (hQ b hb1).2.2 (.inr (.inr (.inr ⟨k, hk, fun e => hjk e.symm, hb2⟩)))
    · rw [upd_ne _ _ e] at hb1
      by_cases e2 : k = i
      · subst e2
        rw [upd_at] at hb2
        exact (hQ b hb2).2.2 (.inr (.inr (.inr ⟨j, hj, e, hb1⟩)))
      · rw [upd_ne _ _ e2] at hb2
        exact h.sep j k b hj hk hjk hb1 hb2
  · intro j hj
    by_cases e : j = i
    · subst e
      rw [upd_at, upd_at, upd_at]
      exact hT.keep (fun b hbj => hne b (fun e => (hQ b hbj).2.2 (.inr (.inl e)))) (by omega) (Nat.le_refl _)
    · rw [upd_ne _ _ e, upd_ne _ _ e, upd_ne _ _ e]
      have h1 := (h.th j hj).keep (T' := T) (w' := w1) (fun b hbj => hK.block b (.inr (.inr (.inr ⟨j, hj, e, hbj⟩)))) hK.size (Nat.le_refl _)
      exact h1.keep (fun b hbj => hne b (h.own j hj b hbj).2.2.1) (by omega) (Nat.le_refl _)
/-- Done of thread i. -/
theorem GE.done (h : GE W d L T g1 g2 pcs since s vs wr) (hi : i < L) : (pcs i = none → Calls Try.prog 43 #[vs i] wr fun e w' => e = .returned (.bool true) ∧ wr = w') ∧ (∀ pc, pcs i = some pc → Calls Try.prog 43 #[vs i] wr fun e w' => e = .returned (.bool false) ∧ wr = w') := by
  obtain ⟨FW, P, h⟩ := h
  have ht := h.th i hi
  refine ⟨fun hn => ?_, fun pc hpc => ?_⟩
  · rw [hn] at ht
    rcases ht with e | ⟨a, F, st, k, O, os, e, h2, _⟩
    · rw [e]; exact done_nil wr
    · rw [e]; exact done_yes h2
  · rw [hpc] at ht
    obtain ⟨a, B1, B2, B3, zs, F, V, k, e, h2, _⟩ := ht
    rw [e]; exact done_no h2
theorem GE.val (h : GE W d L T g1 g2 pcs since s vs wr) (hi : i < L) : (vs i = nilp ∧ pcs i = none) ∨ ∃ a, vs i = ptr a := by
  obtain ⟨FW, P, h⟩ := h
  have ht := h.th i hi
  cases hp : pcs i with
  | none =>
    rw [hp] at ht
    rcases ht with e | ⟨a, F, st, k, O, os, e, _⟩
    · exact .inl ⟨e, rfl⟩
    · exact .inr ⟨a, e⟩
  | some pc =>
    rw [hp] at ht
    obtain ⟨a, B1, B2, B3, zs, F, V, k, e, _⟩ := ht
    exact .inr ⟨a, e⟩
/-- Step of thread i. -/
theorem GE.step {pc : Pc} (h : GE W d L T g1 g2 pcs since s vs wr) (hi : i < L) (hL : L ≤ 64) (hp : pcs i = some pc) (hok : okP L pc) (hI : Inv L 0 s) (hq : ∀ x, s.S[i]? = some x → x.2 = []) (hT : T ≤ 400) :
    Calls Try.prog 45 #[vs i] wr fun e w' => (∃ b, e = .returned (.bool b)) ∧ GE W d L (T + 1) g1 g2 (upd pcs i (nxP L i pc s).1) since (nxP L i pc s).2 vs w' := by
  obtain ⟨FW, P, h⟩ := h
  have ht := h.th i hi
  rw [hp] at ht
  obtain ⟨a, B1, B2, B3, zs, F, V, k, hv, k1, hx, k3, k4, k5, k6, ⟨n1, n2, n3⟩, k7, k8, k9, k10⟩ := ht
  have hRest : Rest d (fun b => Rf W L g1 g2 i P b ∨ b = B1 ∨ b = B2 ∨ b = B3) wr a (wkV B1 B2 B3) zs zs.length s := by
    refine ⟨⟨k, F, FW, V, k1, h.ws, fun b e => (h.own i hi b (k3 b e)).2.2.2.2, ?_⟩, k9⟩
    have box : ∀ B, P i B → ¬ F B → B < wr.heap.size ∧ ¬ F B ∧ ¬ FW B := fun B e n => ⟨(h.own i hi B e).2.1, n, (h.own i hi B e).2.2.2.2⟩
    rintro b (e | e | e | e)
    · refine ⟨(h.rf b e).1, fun f => ?_, (h.rf b e).2⟩
      have := h.own i hi b (k3 b f)
      rcases e with e | e | e | ⟨j, hj, hne, e⟩
      · omega
      · exact this.2.2.1 e
      · exact this.2.2.2.1 e
      · exact h.sep j i b hj hi hne e (k3 b f)
    · rw [e]; exact box B1 k4 n1
    · rw [e]; exact box B2 k5 n2
    · rw [e]; exact box B3 k6 n3
  have hW := start_works (d := d) (me := i) (g := graF) (capw := #[]) (P := Inv L 0) (t := tBE 1000 L i) (out := nilOut) (R := fun b => Rf W L g1 g2 i P b ∨ b = B1 ∨ b = B2 ∨ b = B3) (w := wr) (a := a) rfl (fun W => rfl) hx (.inr (.inl rfl)) (.inr (.inr (.inl rfl))) (.inr (.inr (.inr rfl))) (gra1_job d (fun _ => False) wr hi a (wkV B1 B2 B3) _ wr (fun b e => e.elim) (fun b e => e.elim))
  have hst := step_tree (cap := #[ptr B3, ptr B1, ptr B2]) rfl (fun W => rfl) hW hRest k7 hI.fit hI (by omega)
  rw [hv]
  refine hst.mono ?_
  intro e w' hP
  rw [k8] at hP
  rcases stp_P (L := L) (k := i) (s := s) pc (by omega) hok hq with ⟨pc', g, K, e1, e2, e3, e4⟩ | ⟨s', e1, e4⟩
  · rw [e4] at hP
    obtain ⟨hK, he, ⟨⟨k', F', FW', V', r1, r2, r3, r4⟩, r5⟩⟩ := hP
    refine ⟨⟨false, he⟩, ?_⟩
    rw [e1]
    simp only
    obtain ⟨q1, q2⟩ := path_snoc k7 (k8.trans e2) (g s).1
    refine h.other hi (by omega) (hK.mono fun b e => .inl e) r2 (fun b r => (r4 b (.inl r)).2.2) (Q := fun b => F' b ∨ b = B1 ∨ b = B2 ∨ b = B3) ?_ ?_
    · have own : ∀ B, P i B → ¬ Rf W L g1 g2 i P B := fun B hB r => by
        have := h.own i hi B hB
        rcases r with r | r | r | ⟨j, hj, hne, r⟩
        · omega
        · exact this.2.2.1 r
        · exact this.2.2.2.1 r
        · exact h.sep j i B hj hi hne r hB
      rintro b (e | e | e | e)
      · exact ⟨r1.lt b e, r3 b e, fun r => (r4 b (.inl r)).2.1 e⟩
      · rw [e]; exact ⟨(r4 B1 (.inr (.inl rfl))).1, (r4 B1 (.inr (.inl rfl))).2.2, own B1 k4⟩
      · rw [e]; exact ⟨(r4 B2 (.inr (.inr (.inl rfl)))).1, (r4 B2 (.inr (.inr (.inl rfl)))).2.2, own B2 k5⟩
      · rw [e]; exact ⟨(r4 B3 (.inr (.inr (.inr rfl)))).1, (r4 B3 (.inr (.inr (.inr rfl)))).2.2, own B3 k6⟩
    · refine ⟨a, B1, B2, B3, zs ++ [(g s).1], F', V', k', hv, by rw [List.length_append]; exact r1, hx.keep (hK.block _ (.inr (.inl rfl))) (hK.block _ (.inr (.inr (.inl rfl)))) (hK.block _ (.inr (.inr (.inr rfl)))), fun b e => .inl e, .inr (.inl rfl), .inr (.inr (.inl rfl)), .inr (.inr (.inr rfl)), ⟨fun e => (r4 B1 (.inr (.inl rfl))).2.1 e, fun e => (r4 B2 (.inr (.inr (.inl rfl)))).2.1 e, fun e => (r4 B3 (.inr (.inr (.inr rfl)))).2.1 e⟩, q1, q2.trans e3, r5, by rw [List.length_append, List.length_singleton]; omega⟩
  · rw [e4] at hP
    obtain ⟨hK, he, ⟨F', FW', st', k', O', r1, r2, r3, r4⟩⟩ := hP
    refine ⟨⟨true, he⟩, ?_⟩
    rw [e1]
    simp only
    refine h.other hi (by omega) (hK.mono fun b e => .inl e) r2 (fun b r => (r4 b (.inl r)).2.2) (Q := F') (fun b e => ⟨r1.lt b e, r3 b e, fun r => (r4 b (.inl r)).2.1 e⟩) (.inr ⟨a, F', st', k', O', _, hv, r1, fun b e => e⟩)
end
end Go.Proofs.Ytmnbdhngadjmiaa
