/-
  Words for the law RecordRuns: the program's table, the law's entries, the law's two variables side by side; an act's cells.
-/
import Derived.Test.YtokheagoddmmiaaCopy5
import Derived.Test.YtokheagoddmmiaaOpen5
namespace Go.Proofs.Ytokheagoddmmiaa
open Go.ChangeShapes Go.WideShapes Go.ChangeAt Go.RowKit
set_option linter.unusedVariables false
set_option linter.unusedSimpArgs false
set_option maxRecDepth 20000

/-- Two rows of items tell the same. -/
structure Rel (l e : List It) : Prop where
  len : l.length = e.length
  at_ : ∀ (i : Nat) (x y : It), l[i]? = some x → e[i]? = some y → x.rc = y.rc ∧ x.st = y.st ∧ x.all = y.all
section
variable {l e : List It}
theorem Rel.nil : Rel [] [] := ⟨rfl, fun i x y h => by simp at h⟩
theorem Rel.push (h : Rel l e) {x y : It} (hx : x.rc = y.rc ∧ x.st = y.st ∧ x.all = y.all) : Rel (l ++ [x]) (e ++ [y]) := by
  refine ⟨by simp [h.len], fun i a b ha hb => ?_⟩
  by_cases hi : i < l.length
  · rw [List.getElem?_append_left hi] at ha
    rw [List.getElem?_append_left (by rw [← h.len]; exact hi)] at hb
    exact h.at_ i a b ha hb
  · rw [List.getElem?_append_right (by omega)] at ha
    rw [List.getElem?_append_right (by rw [← h.len]; omega)] at hb
    rw [← h.len] at hb
    by_cases h0 : i - l.length = 0
    · rw [h0] at ha hb
      simp at ha hb
      subst ha hb
      exact hx
    · rw [List.getElem?_eq_none (by simp; omega)] at ha
      cases ha
theorem Rel.set (h : Rel l e) (i : Nat) {x y : It} (hx : x.rc = y.rc ∧ x.st = y.st ∧ x.all = y.all) : Rel (l.set i x) (e.set i y) := by
  refine ⟨by simp [h.len], fun j a b ha hb => ?_⟩
  rw [List.getElem?_set] at ha hb
  by_cases hij : i = j
  · rw [if_pos hij] at ha hb
    split at ha <;> split at hb
    · cases ha; cases hb; exact hx
    all_goals first | (cases ha; done) | (cases hb; done)
  · rw [if_neg hij] at ha hb
    exact h.at_ j a b ha hb
/-- The entry set to what it is. -/
theorem Rel.same (h : Rel l e) {i : Nat} {y : It} (hy : e[i]? = some y) : Rel l (e.set i y) := by
  have e1 : e.set i y = e := by
    obtain ⟨hi, rfl⟩ := List.getElem?_eq_some_iff.1 hy
    simp
  rw [e1]; exact h
end

/-- The eight stores of an entry: into a variable; into a row. -/
abbrev putE (w : World) (b : Nat) (x : It) : World := (((((((w.setCell ⟨b, 0, none⟩ x.nv).setCell ⟨b, 1, none⟩ x.iv).setCell ⟨b, 2, none⟩ (.int .i64 x.rc.kp)).setCell ⟨b, 3, none⟩ (.int .i64 x.rc.wy)).setCell ⟨b, 4, none⟩ (.int .i64 x.rc.od)).setCell ⟨b, 5, none⟩ (.int .i64 x.rc.nw)).setCell ⟨b, 6, none⟩ (.int .u8 x.st)).setCell ⟨b, 7, none⟩ (.bool x.all)
abbrev putR (w : World) (g i : Nat) (x : It) : World := (((((((w.setCell ⟨g, i * 8, none⟩ x.nv).setCell ⟨g, i * 8 + 1, none⟩ x.iv).setCell ⟨g, i * 8 + 2, none⟩ (.int .i64 x.rc.kp)).setCell ⟨g, i * 8 + 3, none⟩ (.int .i64 x.rc.wy)).setCell ⟨g, i * 8 + 4, none⟩ (.int .i64 x.rc.od)).setCell ⟨g, i * 8 + 5, none⟩ (.int .i64 x.rc.nw)).setCell ⟨g, i * 8 + 6, none⟩ (.int .u8 x.st)).setCell ⟨g, i * 8 + 7, none⟩ (.bool x.all)
/-- An entry's cells, as a block has them. -/
abbrev blkE (x : It) : Array Value := #[x.nv, x.iv, .int .i64 x.rc.kp, .int .i64 x.rc.wy, .int .i64 x.rc.od, .int .i64 x.rc.nw, .int .u8 x.st, .bool x.all]
theorem blk_put {w : World} {b : Nat} {t : TypeId} {v0 v1 v2 v3 v4 v5 v6 v7 : Value} (u0 u1 u2 u3 u4 u5 u6 u7 : Value) (h : w.heap[b]? = some (.cells #[v0, v1, v2, v3, v4, v5, v6, v7] t (0, 0))) :
    ((((((((w.setCell ⟨b, 0, none⟩ u0).setCell ⟨b, 1, none⟩ u1).setCell ⟨b, 2, none⟩ u2).setCell ⟨b, 3, none⟩ u3).setCell ⟨b, 4, none⟩ u4).setCell ⟨b, 5, none⟩ u5).setCell ⟨b, 6, none⟩ u6).setCell ⟨b, 7, none⟩ u7).heap[b]? = some (.cells #[u0, u1, u2, u3, u4, u5, u6, u7] t (0, 0)) := by
  have h0 : (w.setCell ⟨b, 0, none⟩ u0).heap[b]? = some (.cells #[u0, v1, v2, v3, v4, v5, v6, v7] t (0, 0)) := heap_setCell_same _ b 0 _ _ u0 h
  have h1 : ((w.setCell ⟨b, 0, none⟩ u0).setCell ⟨b, 1, none⟩ u1).heap[b]? = some (.cells #[u0, u1, v2, v3, v4, v5, v6, v7] t (0, 0)) := heap_setCell_same _ b 1 _ _ u1 h0
  have h2 : (((w.setCell ⟨b, 0, none⟩ u0).setCell ⟨b, 1, none⟩ u1).setCell ⟨b, 2, none⟩ u2).heap[b]? = some (.cells #[u0, u1, u2, v3, v4, v5, v6, v7] t (0, 0)) := heap_setCell_same _ b 2 _ _ u2 h1
  have h3 : ((((w.setCell ⟨b, 0, none⟩ u0).setCell ⟨b, 1, none⟩ u1).setCell ⟨b, 2, none⟩ u2).setCell ⟨b, 3, none⟩ u3).heap[b]? = some (.cells #[u0, u1, u2, u3, v4, v5, v6, v7] t (0, 0)) := heap_setCell_same _ b 3 _ _ u3 h2
  have h4 : (((((w.setCell ⟨b, 0, none⟩ u0).setCell ⟨b, 1, none⟩ u1).setCell ⟨b, 2, none⟩ u2).setCell ⟨b, 3, none⟩ u3).setCell ⟨b, 4, none⟩ u4).heap[b]? = some (.cells #[u0, u1, u2, u3, u4, v5, v6, v7] t (0, 0)) := heap_setCell_same _ b 4 _ _ u4 h3
  have h5 : ((((((w.setCell ⟨b, 0, none⟩ u0).setCell ⟨b, 1, none⟩ u1).setCell ⟨b, 2, none⟩ u2).setCell ⟨b, 3, none⟩ u3).setCell ⟨b, 4, none⟩ u4).setCell ⟨b, 5, none⟩ u5).heap[b]? = some (.cells #[u0, u1, u2, u3, u4, u5, v6, v7] t (0, 0)) := heap_setCell_same _ b 5 _ _ u5 h4
  have h6 : (((((((w.setCell ⟨b, 0, none⟩ u0).setCell ⟨b, 1, none⟩ u1).setCell ⟨b, 2, none⟩ u2).setCell ⟨b, 3, none⟩ u3).setCell ⟨b, 4, none⟩ u4).setCell ⟨b, 5, none⟩ u5).setCell ⟨b, 6, none⟩ u6).heap[b]? = some (.cells #[u0, u1, u2, u3, u4, u5, u6, v7] t (0, 0)) := heap_setCell_same _ b 6 _ _ u6 h5
  have h7 : ((((((((w.setCell ⟨b, 0, none⟩ u0).setCell ⟨b, 1, none⟩ u1).setCell ⟨b, 2, none⟩ u2).setCell ⟨b, 3, none⟩ u3).setCell ⟨b, 4, none⟩ u4).setCell ⟨b, 5, none⟩ u5).setCell ⟨b, 6, none⟩ u6).setCell ⟨b, 7, none⟩ u7).heap[b]? = some (.cells #[u0, u1, u2, u3, u4, u5, u6, u7] t (0, 0)) := heap_setCell_same _ b 7 _ _ u7 h6
  exact h7
theorem blkE_put {w : World} {b : Nat} {x y : It} (h : w.heap[b]? = some (.cells (blkE x) enT (0, 0))) : (putE w b y).heap[b]? = some (.cells (blkE y) enT (0, 0)) := blk_put _ _ _ _ _ _ _ _ h
theorem only_putE (w : World) (b : Nat) (x : It) : Only (fun c => c = b) w (putE w b x) :=
  (((((((Only.set (fun c => c = b) w (p := ⟨b, 0, none⟩) rfl _).then (Only.set (fun c => c = b) _ (p := ⟨b, 1, none⟩) rfl _)).then (Only.set (fun c => c = b) _ (p := ⟨b, 2, none⟩) rfl _)).then (Only.set (fun c => c = b) _ (p := ⟨b, 3, none⟩) rfl _)).then (Only.set (fun c => c = b) _ (p := ⟨b, 4, none⟩) rfl _)).then (Only.set (fun c => c = b) _ (p := ⟨b, 5, none⟩) rfl _)).then (Only.set (fun c => c = b) _ (p := ⟨b, 6, none⟩) rfl _)).then (Only.set (fun c => c = b) _ (p := ⟨b, 7, none⟩) rfl _)
theorem grown_putR (w : World) (g i : Nat) (x : It) : w.grownBy (putR w g i x) (some g) :=
  grown_two (grown_two (grown_two (grown_two (grown_two (grown_two (grown_two (grown_set w ⟨g, i * 8, none⟩ _) (grown_set _ ⟨g, i * 8 + 1, none⟩ _)) (grown_set _ ⟨g, i * 8 + 2, none⟩ _)) (grown_set _ ⟨g, i * 8 + 3, none⟩ _)) (grown_set _ ⟨g, i * 8 + 4, none⟩ _)) (grown_set _ ⟨g, i * 8 + 5, none⟩ _)) (grown_set _ ⟨g, i * 8 + 6, none⟩ _)) (grown_set _ ⟨g, i * 8 + 7, none⟩ _)
/-- An entry is written over. -/
theorem Its.putR {G : Nat → Prop} {w : World} {g c i L : Nat} {e : List It} {x y : It} (h : Its enT G w (.slice (some ⟨g, 0, none⟩) L c) e) (hL : e.length = L) (hi : e[i]? = some x) (hy : ItM w G y) : Its enT G (putR w g i y) (.slice (some ⟨g, 0, none⟩) L c) (e.set i y) := by
  subst hL
  obtain ⟨A, B, hA, hrow, hset⟩ := rowOf_split e i x hi
  have hr := h.row
  rw [hrow] at hr
  have h0 := own_mid (j := 0) hr hA (by simp [cellsOf]) y.nv
  have h1 := own_mid (j := 1) h0 hA (by simp [cellsOf]) y.iv
  have h2 := own_mid (j := 2) h1 hA (by simp [cellsOf]) (.int .i64 y.rc.kp)
  have h3 := own_mid (j := 3) h2 hA (by simp [cellsOf]) (.int .i64 y.rc.wy)
  have h4 := own_mid (j := 4) h3 hA (by simp [cellsOf]) (.int .i64 y.rc.od)
  have h5 := own_mid (j := 5) h4 hA (by simp [cellsOf]) (.int .i64 y.rc.nw)
  have h6 := own_mid (j := 6) h5 hA (by simp [cellsOf]) (.int .u8 y.st)
  have h7 := own_mid (j := 7) h6 hA (by simp [cellsOf]) (.bool y.all)
  refine h.changed (grown_putR w g i y) ?_ (fun z hz => ?_) entryT.ne.1 entryT.ne.2
  · rw [List.length_set, hset y]; exact h7
  · rcases List.mem_or_eq_of_mem_set hz with hz | rfl
    · exact h.mem z hz
    · exact hy

/-- The table, the entries, kept blocks. -/
structure RI (w : World) (a mo : Nat) (F G : Nat → Prop) (l e : List It) (P Hv : Value) (K : List (Nat × Array Value × TypeId)) (wr : World) : Prop where
  tb : Tb F wr a mo l P
  en : Its enT G wr Hv e
  dis : ∀ b, F b → ¬ G b
  low : ∀ b, F b ∨ G b → w.heap.size ≤ b
  keep : ∀ y ∈ K, wr.heap[y.1]? = some (.cells y.2.1 y.2.2 (0, 0)) ∧ ¬ F y.1 ∧ ¬ G y.1 ∧ w.heap.size ≤ y.1
  below : Below w.heap.size w wr
section
variable {w wr wr' : World} {a mo : Nat} {F G F' G' : Nat → Prop} {l e l' e' : List It} {P Hv P' Hv' : Value} {K : List (Nat × Array Value × TypeId)} {i : Nat} {x y : It}
theorem RI.next (h : RI w a mo F G l e P Hv K wr) (hb : Below wr.heap.size wr wr') : RI w a mo F G l e P Hv K wr' :=
  ⟨h.tb.below hb, h.en.below hb, h.dis, h.low, fun y hy => by obtain ⟨h1, h2⟩ := h.keep y hy; exact ⟨(hb.block _ (Array.getElem?_eq_some_iff.1 h1).1).trans h1, h2⟩, h.below.trans (hb.mono h.below.size)⟩
/-- What the table did. -/
theorem RI.tab (h : RI w a mo F G l e P Hv K wr) (ht : Tb F' wr' a mo l' P') (ho : Only F wr wr') (h3 : ∀ b, F' b → F b ∨ wr.heap.size ≤ b) : RI w a mo F' G l' e P' Hv K wr' := by
  refine ⟨ht, h.en.only ho (fun c hG hF => h.dis c hF hG), fun c hF hG => ?_, fun c hc => ?_, fun y hy => ?_, h.below.trans (ho.below (fun c hF => h.low c (.inl hF)) h.below.size)⟩
  · rcases h3 c hF with h4 | h4
    · exact h.dis c h4 hG
    · have := h.en.lt c hG; omega
  · rcases hc with hc | hc
    · rcases h3 c hc with h4 | h4
      · exact h.low c (.inl h4)
      · exact Nat.le_trans h.below.size h4
    · exact h.low c (.inr hc)
  · obtain ⟨k1, k2, k3, k4⟩ := h.keep y hy
    have hl := (Array.getElem?_eq_some_iff.1 k1).1
    exact ⟨(ho.block _ hl k2).trans k1, fun hF => by rcases h3 _ hF with h4 | h4; exact k2 h4; omega, k3, k4⟩
/-- What was done to the entries. -/
theorem RI.ent (h : RI w a mo F G l e P Hv K wr) (ht : Its enT G' wr' Hv' e') (ho : Only G wr wr') (h3 : ∀ b, G' b → G b ∨ wr.heap.size ≤ b) : RI w a mo F G' l e' P Hv' K wr' := by
  refine ⟨h.tb.only ho h.dis, ht, fun c hF hG => ?_, fun c hc => ?_, fun y hy => ?_, h.below.trans (ho.below (fun c hG => h.low c (.inr hG)) h.below.size)⟩
  · rcases h3 c hG with h4 | h4
    · exact h.dis c hF h4
    · have := h.tb.its.lt c hF; omega
  · rcases hc with hc | hc
    · exact h.low c (.inl hc)
    · rcases h3 c hc with h4 | h4
      · exact h.low c (.inr h4)
      · exact Nat.le_trans h.below.size h4
  · obtain ⟨k1, k2, k3, k4⟩ := h.keep y hy
    have hl := (Array.getElem?_eq_some_iff.1 k1).1
    exact ⟨(ho.block _ hl k3).trans k1, k2, fun hG => by rcases h3 _ hG with h4 | h4; exact k3 h4; omega, k4⟩
/-- A block that was made just now. -/
theorem RI.add (h : RI w a mo F G l e P Hv K wr) (cs : Array Value) (t : TypeId) : RI w a mo F G l e P Hv ((wr.heap.size, cs, t) :: K) (wr.alloc (.cells cs t)) := by
  have hn := h.next (below_new wr (.cells cs t))
  refine ⟨hn.tb, hn.en, hn.dis, hn.low, fun y hy => ?_, hn.below⟩
  rcases List.mem_cons.1 hy with rfl | hy
  · exact ⟨heap_alloc_new wr _, fun hF => by have := h.tb.its.lt _ hF; simp at this, fun hG => by have := h.en.lt _ hG; simp at this, h.below.size⟩
  · exact hn.keep y hy
theorem RI.sub {K' : List (Nat × Array Value × TypeId)} (h : RI w a mo F G l e P Hv K wr) (hs : ∀ y ∈ K', y ∈ K) : RI w a mo F G l e P Hv K' wr :=
  ⟨h.tb, h.en, h.dis, h.low, fun y hy => h.keep y (hs y hy), h.below⟩
/-- The first kept block is written into. -/
theorem RI.poke {b : Nat} {cs cs' : Array Value} {t : TypeId} (h : RI w a mo F G l e P Hv ((b, cs, t) :: K) wr) (hn : ∀ y ∈ K, y.1 ≠ b) (ho : Only (fun c => c = b) wr wr') (hb : wr'.heap[b]? = some (.cells cs' t (0, 0))) : RI w a mo F G l e P Hv ((b, cs', t) :: K) wr' := by
  obtain ⟨k1, k2, k3, k4⟩ := h.keep _ (List.mem_cons_self ..)
  simp only at k1 k2 k3 k4
  refine ⟨h.tb.only ho (fun c hF e => k2 (e ▸ hF)), h.en.only ho (fun c hG e => k3 (e ▸ hG)), h.dis, h.low, fun y hy => ?_, h.below.trans (ho.below (fun c e => by have : c = b := e; omega) h.below.size)⟩
  rcases List.mem_cons.1 hy with rfl | hy
  · exact ⟨hb, k2, k3, k4⟩
  · obtain ⟨j1, j2⟩ := h.keep y (List.mem_cons_of_mem _ hy)
    exact ⟨(ho.block _ (Array.getElem?_eq_some_iff.1 j1).1 (hn y hy)).trans j1, j2⟩
theorem RI.first {b : Nat} {cs : Array Value} {t : TypeId} (h : RI w a mo F G l e P Hv ((b, cs, t) :: K) wr) : wr.heap[b]? = some (.cells cs t (0, 0)) := (h.keep _ (List.mem_cons_self ..)).1
theorem RI.second {b : Nat} {cs : Array Value} {t : TypeId} {z : Nat × Array Value × TypeId} (h : RI w a mo F G l e P Hv (z :: (b, cs, t) :: K) wr) : wr.heap[b]? = some (.cells cs t (0, 0)) := (h.keep (b, cs, t) (List.mem_cons_of_mem _ (List.mem_cons_self ..))).1
theorem RI.write {b : Nat} (h : RI w a mo F G l e P Hv ((b, blkE x, enT) :: K) wr) (hn : ∀ z ∈ K, z.1 ≠ b) (y : It) : RI w a mo F G l e P Hv ((b, blkE y, enT) :: K) (putE wr b y) :=
  h.poke hn (only_putE wr b y) (blkE_put h.first)
theorem RI.writeSt {b : Nat} (h : RI w a mo F G l e P Hv ((b, blkE x, enT) :: K) wr) (hn : ∀ z ∈ K, z.1 ≠ b) (s : Int) : RI w a mo F G l e P Hv ((b, blkE { x with st := s }, enT) :: K) (wr.setCell ⟨b, 6, none⟩ (.int .u8 s)) :=
  h.poke hn (Only.set (fun c => c = b) wr (p := ⟨b, 6, none⟩) rfl _) (heap_setCell_same wr b 6 _ _ _ h.first)
theorem RI.writeAll {b : Nat} (h : RI w a mo F G l e P Hv ((b, blkE x, enT) :: K) wr) (hn : ∀ z ∈ K, z.1 ≠ b) : RI w a mo F G l e P Hv ((b, blkE { x with all := true }, enT) :: K) (wr.setCell ⟨b, 7, none⟩ (.bool true)) :=
  h.poke hn (Only.set (fun c => c = b) wr (p := ⟨b, 7, none⟩) rfl _) (heap_setCell_same wr b 7 _ _ _ h.first)
/-- An entry is written over. -/
theorem RI.over {g c L : Nat} (h : RI w a mo F G l e P (.slice (some ⟨g, 0, none⟩) L c) K wr) (hL : e.length = L) (hi : e[i]? = some x) (hy : ItM wr G y) : RI w a mo F G l (e.set i y) P (.slice (some ⟨g, 0, none⟩) L c) K (putR wr g i y) :=
  h.ent (h.en.putR hL hi hy) (Only.grown G (grown_putR wr g i y) (fun b eb => h.en.frow b eb)) (fun b hb => .inl hb)
/-- An entry is put behind. -/
theorem RI.push {X : World} (h : RI w a mo F G l e P Hv K wr) (hb : Below wr.heap.size wr X) (hn : Row 30 wr.heap.size X x.nv x.rc.ns) (hi : Row 2 wr.heap.size X x.iv x.rc.is) (hf : x.rc.ns.length ≤ 20 ∧ x.rc.is.length ≤ 20) (hl : e.length ≤ 70000)
    (s : Nat) (hs : ∀ (j : Nat) (u : Value), (cellsOf x)[j]? = some u → X.cell? ⟨s, j, none⟩ = some u) :
    ∃ Hv2 w2 G', (∀ ty, (Builtin.append_ #[26, 26] ty #[Hv, .slice (some ⟨s, 0, none⟩) 1 1]).run Try.prog X = .ok Hv2 w2) ∧ (∃ A c, Hv2 = .slice A (e.length + 1) c) ∧ RI w a mo F G' l (e ++ [x]) P Hv2 K w2 := by
  have hX := h.next hb
  have hx : ItM X (fun b => G b ∨ x.nv.ownBlock = some b ∨ x.iv.ownBlock = some b) x := ⟨hn.lower (Nat.zero_le _), hi.lower (Nat.zero_le _), fun b e => .inr e, hf⟩
  have hG : ∀ b, (G b ∨ x.nv.ownBlock = some b ∨ x.iv.ownBlock = some b) → b < X.heap.size := by
    rintro b (e | e | e)
    · exact hX.en.lt b e
    · exact (World.ownsRow.lt hn b e).2
    · exact (World.ownsRow.lt hi b e).2
  obtain ⟨P2, w2, hr, hP2, hits, hg, hbl⟩ := hX.en.run entryT 0 s hs hl hx (fun b e => .inl e) hG
  refine ⟨P2, w2, _, fun ty => hr, hP2, h.ent hits ((Only.of_below G hb).then (Only.grown G hg fun b e => h.en.frow b e)) ?_⟩
  rintro b ((e | e | e) | e)
  · exact .inl e
  · exact .inr (World.ownsRow.lt hn b e).1
  · exact .inr (World.ownsRow.lt hi b e).1
  · rcases hbl b e with e | e
    · exact .inl (h.en.frow b e)
    · exact .inr (Nat.le_trans hb.size e)
end

theorem ten_cells {W : World} {b : Nat} {c0 c1 c2 c3 c4 c5 c6 c7 c8 c9 : Value} {t : TypeId} (h : W.heap[b]? = some (.cells #[c0, c1, c2, c3, c4, c5, c6, c7, c8, c9] t (0, 0))) : W.cell? ⟨b, 0, none⟩ = some c0 ∧ W.cell? ⟨b, 1, none⟩ = some c1 ∧ W.cell? ⟨b, 2, none⟩ = some c2 ∧ W.cell? ⟨b, 3, none⟩ = some c3 ∧ W.cell? ⟨b, 4, none⟩ = some c4 ∧ W.cell? ⟨b, 5, none⟩ = some c5 ∧ W.cell? ⟨b, 6, none⟩ = some c6 ∧ W.cell? ⟨b, 7, none⟩ = some c7 ∧ W.cell? ⟨b, 8, none⟩ = some c8 ∧ W.cell? ⟨b, 9, none⟩ = some c9 := by
  refine ⟨?_, ?_, ?_, ?_, ?_, ?_, ?_, ?_, ?_, ?_⟩ <;> (rw [cell_of_row W b _ _ _ (0, 0) h]; rfl)
theorem eight_cells {W : World} {b : Nat} {c0 c1 c2 c3 c4 c5 c6 c7 : Value} {t : TypeId} (h : W.heap[b]? = some (.cells #[c0, c1, c2, c3, c4, c5, c6, c7] t (0, 0))) : W.cell? ⟨b, 0, none⟩ = some c0 ∧ W.cell? ⟨b, 1, none⟩ = some c1 ∧ W.cell? ⟨b, 2, none⟩ = some c2 ∧ W.cell? ⟨b, 3, none⟩ = some c3 ∧ W.cell? ⟨b, 4, none⟩ = some c4 ∧ W.cell? ⟨b, 5, none⟩ = some c5 ∧ W.cell? ⟨b, 6, none⟩ = some c6 ∧ W.cell? ⟨b, 7, none⟩ = some c7 := by
  refine ⟨?_, ?_, ?_, ?_, ?_, ?_, ?_, ?_⟩ <;> (rw [cell_of_row W b _ _ _ (0, 0) h]; rfl)
theorem eight_frees {W : World} {b : Nat} {cs : Array Value} {t : TypeId} (h : W.heap[b]? = some (.cells cs t (0, 0))) : W.frozen? ⟨b, 0, none⟩ = false ∧ W.frozen? ⟨b, 1, none⟩ = false ∧ W.frozen? ⟨b, 2, none⟩ = false ∧ W.frozen? ⟨b, 3, none⟩ = false ∧ W.frozen? ⟨b, 4, none⟩ = false ∧ W.frozen? ⟨b, 5, none⟩ = false ∧ W.frozen? ⟨b, 6, none⟩ = false ∧ W.frozen? ⟨b, 7, none⟩ = false :=
  ⟨frozen_of_row W b 0 _ _ h, frozen_of_row W b 1 _ _ h, frozen_of_row W b 2 _ _ h, frozen_of_row W b 3 _ _ h, frozen_of_row W b 4 _ _ h, frozen_of_row W b 5 _ _ h, frozen_of_row W b 6 _ _ h, frozen_of_row W b 7 _ _ h⟩

/-- An element of a slice of acts. -/
theorem acts_at {w w' : World} {A : Option Addr} {n : Nat} {l : List Ac} (h : Sts AcC 10 w A n l) (hb : Below w.heap.size w w') {k : Nat} (hk : k < n) : ∃ g off x A1 n1 c1 B1 m1 d1, A = some ⟨g, off, none⟩ ∧ g < w.heap.size ∧ Ac.wf x ∧ w'.cell? ⟨g, off + k * 10, none⟩ = some (.int .u8 x.do_) ∧ w'.cell? ⟨g, off + k * 10 + 1, none⟩ = some (.int .i8 x.on) ∧ w'.cell? ⟨g, off + k * 10 + 2, none⟩ = some (.int .i64 x.raw) ∧ w'.cell? ⟨g, off + k * 10 + 3, none⟩ = some (.int .u8 x.st) ∧ w'.cell? ⟨g, off + k * 10 + 4, none⟩ = some (.slice A1 n1 c1) ∧ w'.cell? ⟨g, off + k * 10 + 5, none⟩ = some (.slice B1 m1 d1) ∧ w'.cell? ⟨g, off + k * 10 + 6, none⟩ = some (.int .i64 x.rc.kp) ∧ w'.cell? ⟨g, off + k * 10 + 7, none⟩ = some (.int .i64 x.rc.wy) ∧ w'.cell? ⟨g, off + k * 10 + 8, none⟩ = some (.int .i64 x.rc.od) ∧ w'.cell? ⟨g, off + k * 10 + 9, none⟩ = some (.int .i64 x.rc.nw) ∧ Sl w A1 n1 c1 x.rc.ns ∧ Sl w B1 m1 d1 x.rc.is := by
  obtain ⟨h1, _, h2⟩ := h
  have hl : k < l.length := by omega
  rcases h2 with rfl | ⟨b, off, rfl, hc⟩
  · simp at hl
  · obtain ⟨cs, hcl, hcc, hwf, A1, n1, c1, B1, m1, d1, rfl, s1, s2⟩ := hc k _ (List.getElem?_eq_getElem hl)
    have t0 := hcc 0 _ rfl
    have t1 := hcc 1 _ rfl
    have t2 := hcc 2 _ rfl
    have t3 := hcc 3 _ rfl
    have t4 := hcc 4 _ rfl
    have t5 := hcc 5 _ rfl
    have t6 := hcc 6 _ rfl
    have t7 := hcc 7 _ rfl
    have t8 := hcc 8 _ rfl
    have t9 := hcc 9 _ rfl
    have hg := World.block_lt_of_cell? w _ t0
    exact ⟨b, off, _, A1, n1, c1, B1, m1, d1, rfl, hg, hwf, (hb.cell (p := ⟨b, off + k * 10, none⟩) hg).trans t0, (hb.cell (p := ⟨b, off + k * 10 + 1, none⟩) hg).trans t1, (hb.cell (p := ⟨b, off + k * 10 + 2, none⟩) hg).trans t2, (hb.cell (p := ⟨b, off + k * 10 + 3, none⟩) hg).trans t3, (hb.cell (p := ⟨b, off + k * 10 + 4, none⟩) hg).trans t4, (hb.cell (p := ⟨b, off + k * 10 + 5, none⟩) hg).trans t5, (hb.cell (p := ⟨b, off + k * 10 + 6, none⟩) hg).trans t6, (hb.cell (p := ⟨b, off + k * 10 + 7, none⟩) hg).trans t7, (hb.cell (p := ⟨b, off + k * 10 + 8, none⟩) hg).trans t8, (hb.cell (p := ⟨b, off + k * 10 + 9, none⟩) hg).trans t9, s1, s2⟩
end Go.Proofs.Ytokheagoddmmiaa
