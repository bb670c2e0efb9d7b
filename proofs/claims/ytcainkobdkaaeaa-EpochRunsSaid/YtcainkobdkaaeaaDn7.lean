/-
  What the document's New returns.
-/
import Derived.Test.YtcainkobdkaaeaaDm7
namespace Go.Proofs.Ytcainkobdkaaeaa
open Go.ChangeShapes Go.WideShapes Go.ChangeAt Go.RowKit
set_option linter.unusedVariables false
set_option linter.unusedSimpArgs false
set_option maxRecDepth 20000

section
variable {F G : Nat → Prop} {w w' : World} {d i : Nat} {now : Int} {zs : List Int} {l : List (Tq × Value)} {Sv L : Value}
/-- append of a number to a row of numbers: where it lies then. -/
theorem run_one (hown : Row 2 0 w Sv zs) {s : Nat} {z : Int} (hs : w.cell? ⟨s, 0, none⟩ = some (.int .i64 z)) (hl : zs.length ≤ 1000) :
    ∃ A' c' w', (Builtin.append_ #[31, 31] 31 #[Sv, .slice (some ⟨s, 0, none⟩) 1 1]).run Try.prog w = .ok (.slice A' (zs.length + 1) c') w' ∧ Row 2 0 w' (.slice A' (zs.length + 1) c') (zs ++ [z]) ∧ w.grownBy w' Sv.ownBlock ∧ ∀ b, (Value.slice A' (zs.length + 1) c').ownBlock = some b → Sv.ownBlock = some b ∨ w.heap.size ≤ b := by
  obtain ⟨i0, hi0, hz0, hz1, hz2⟩ := info_parts rowK.info
  obtain ⟨v', w', h1, h2, h3, h4⟩ := run_push (w := w) 31 31 2 i0 _ 1 8 rowK.under hi0 hz0 hz1 hz2 rfl (by omega) Sv zs.length (ints zs) hown ⟨s, 0, none⟩ 1 1 (ints [z]) rfl
    (by
      intro j u hj
      match j, hj with
      | 0, hj => simp [ints] at hj; subst hj; simpa [Addr.add] using hs) (ints_one _) (by unfold maxLen; omega) (by omega)
  have h2' : Row 2 0 w' v' (zs ++ [z]) := by
    unfold Row
    rw [List.length_append, ints_append]
    exact h2
  obtain ⟨A', c', e, _⟩ := h2'.form
  rw [List.length_append] at e
  subst e
  exact ⟨A', c', w', h1, h2', h3, h4⟩
theorem De.pushSaid (h : De F w d now zs l Sv L) {z : Int} {S' : Value} (hr : Row 2 0 w' S' (zs ++ [z])) (hg : w.grownBy w' Sv.ownBlock) (hb : ∀ b, S'.ownBlock = some b → Sv.ownBlock = some b ∨ w.heap.size ≤ b) :
    De (fun b => F b ∨ S'.ownBlock = some b) (w'.setCell ⟨d, 1, none⟩ S') d now (zs ++ [z]) l S' L ∧ Only F w (w'.setCell ⟨d, 1, none⟩ S') ∧ w'.cell? ⟨d, 1, none⟩ = some Sv ∧ w'.frozen? ⟨d, 1, none⟩ = false ∧ ∀ b, (F b ∨ S'.ownBlock = some b) → F b ∨ w.heap.size ≤ b := by
  obtain ⟨n1, n2, n3, n4, n5, n6⟩ := de_ne
  have hS : ∀ b, Sv.ownBlock = some b → Ty w b 2 := fun b e => own_ty h.said e
  have ho : ∀ b t, F b → Ty w b t → t ≠ 2 → w'.heap[b]? = w.heap[b]? := fun b t hF ht hne => hg.block b (h.lt b hF) (fun e => hne (ht.one (hS b e.symm)))
  have hd : w'.heap[d]? = some (.cells #[.int .i64 now, Sv, L] deT (0, 0)) := (ho d _ h.fa h.tyD n6).trans h.head
  have htd : Ty w' d deT := ⟨_, hd⟩
  have hq : Qs F w' gdT slT 1 cD l L := ⟨own_at h.qs.row fun b e => ho b _ (h.qs.frow b e) (own_ty h.qs.row e) (fun e => n5 e.symm), h.qs.frow, fun x hx => (h.qs.que x hx).at_ fun b e => ho b _ (h.qs.fque x hx b e) ((h.qs.que x hx).ty e) (fun e => n4 e.symm), h.qs.fque, h.qs.sep⟩
  refine ⟨⟨?_, ?_, .inl h.fa, own_set hr htd n6 _, fun b e => .inr e, ?_⟩, (Only.grown F hg fun b e => h.fsaid b e).then (Only.set F w' (p := ⟨d, 1, none⟩) h.fa _), by rw [cell_of_row w' d _ _ _ (0, 0) hd]; rfl, frozen_of_row w' d 1 _ _ hd, ?_⟩
  · rintro b (e | e)
    · simpa using Nat.lt_of_lt_of_le (h.lt b e) hg.size
    · simpa using (World.ownsRow.lt hr b e).2
  · rw [heap_setCell_same w' d 1 _ _ S' hd]; rfl
  · have : Qs F (w'.setCell ⟨d, 1, none⟩ S') gdT slT 1 cD l L := ⟨own_set hq.row htd n2 _, hq.frow, fun x hx => (hq.que x hx).at_ fun b e => heap_setCell_other w' ⟨d, 1, none⟩ b _ (fun eb => n1 (htd.one (by subst eb; exact (hq.que x hx).ty e))), hq.fque, hq.sep⟩
    exact this.mono fun b e => .inl e
  · rintro b (e | e)
    · exact .inl e
    · exact (hb b e).imp (fun e => h.fsaid b e) id
theorem sl_info : (Try.prog.info? slT).map (fun i => (i.zero, i.size, i.bytes)) = some (some (.slice none 0 0), 1, 24) := by kernel_rfl
/-- append of no queue to the row of queues. -/
theorem run_lim (hown : w.ownsRow 0 slT 1 L l.length (cD l)) {s : Nat} (hs : w.cell? ⟨s, 0, none⟩ = some (.slice none 0 0)) (hl : l.length ≤ 1000) (y : Tq) :
    ∃ A' c' w', (Builtin.append_ #[32, 32] 32 #[L, .slice (some ⟨s, 0, none⟩) 1 1]).run Try.prog w = .ok (.slice A' (l.length + 1) c') w' ∧ w'.ownsRow 0 slT 1 (.slice A' (l.length + 1) c') (l.length + 1) (cD (l ++ [(y, .slice none 0 0)])) ∧ w.grownBy w' L.ownBlock ∧ ∀ b, (Value.slice A' (l.length + 1) c').ownBlock = some b → L.ownBlock = some b ∨ w.heap.size ≤ b := by
  obtain ⟨i0, hi0, hz0, hz1, hz2⟩ := info_parts sl_info
  obtain ⟨v', w', h1, h2, h3, h4⟩ := run_push (w := w) 32 32 slT i0 _ 1 24 Try.underlying32 hi0 hz0 hz1 hz2 rfl (by omega) L l.length (cD l) hown ⟨s, 0, none⟩ 1 1 [.slice none 0 0] rfl
    (by
      intro j u hj
      match j, hj with
      | 0, hj => simp at hj; subst hj; simpa [Addr.add] using hs) (by intro u hu; simp at hu; subst hu; rfl) (by unfold maxLen; omega) (by omega)
  have e1 : cD (l ++ [(y, .slice none 0 0)]) = cD l ++ [.slice none 0 0] := by simp [cD]
  rw [e1]
  have hform : ∃ A c, v' = .slice A (l.length + 1) c := by
    rcases h2.2 with ⟨_, h0⟩ | ⟨g, cap, cur, rfl, _⟩
    · omega
    · exact ⟨_, cap, rfl⟩
  obtain ⟨A', c', rfl⟩ := hform
  exact ⟨A', c', w', h1, h2, h3, h4⟩
theorem De.pushLim (h : De F w d now zs l Sv L) {y : Tq} (hy : y.2 = []) {L' : Value} (hr : w'.ownsRow 0 slT 1 L' (l.length + 1) (cD (l ++ [(y, .slice none 0 0)]))) (hg : w.grownBy w' L.ownBlock) (hb : ∀ b, L'.ownBlock = some b → L.ownBlock = some b ∨ w.heap.size ≤ b) :
    De (fun b => F b ∨ L'.ownBlock = some b) (w'.setCell ⟨d, 2, none⟩ L') d now zs (l ++ [(y, .slice none 0 0)]) Sv L' ∧ Only F w (w'.setCell ⟨d, 2, none⟩ L') ∧ w'.cell? ⟨d, 2, none⟩ = some L ∧ w'.frozen? ⟨d, 2, none⟩ = false ∧ ∀ b, (F b ∨ L'.ownBlock = some b) → F b ∨ w.heap.size ≤ b := by
  obtain ⟨n1, n2, n3, n4, n5, n6⟩ := de_ne
  have hL : ∀ b, L.ownBlock = some b → Ty w b slT := fun b e => own_ty h.qs.row e
  have ho : ∀ b t, F b → Ty w b t → t ≠ slT → w'.heap[b]? = w.heap[b]? := fun b t hF ht hne => hg.block b (h.lt b hF) (fun e => hne (ht.one (hL b e.symm)))
  have hd : w'.heap[d]? = some (.cells #[.int .i64 now, Sv, L] deT (0, 0)) := (ho d _ h.fa h.tyD n2).trans h.head
  have htd : Ty w' d deT := ⟨_, hd⟩
  have hs : Row 2 0 w' Sv zs := own_at h.said fun b e => ho b _ (h.fsaid b e) (own_ty h.said e) n5
  have hmem : ∀ x ∈ l ++ [(y, .slice none 0 0)], x ∈ l ∨ x = (y, .slice none 0 0) := fun x hx => by simpa using hx
  refine ⟨⟨?_, ?_, .inl h.fa, own_set hs htd n6 _, fun b e => .inl (h.fsaid b e), ?_, fun b e => .inr e, ?_, ?_, ?_⟩, (Only.grown F hg fun b e => h.qs.frow b e).then (Only.set F w' (p := ⟨d, 2, none⟩) h.fa _), by rw [cell_of_row w' d _ _ _ (0, 0) hd]; rfl, frozen_of_row w' d 2 _ _ hd, ?_⟩
  · rintro b (e | e)
    · simpa using Nat.lt_of_lt_of_le (h.lt b e) hg.size
    · simpa using (World.ownsRow.lt hr b e).2
  · rw [heap_setCell_same w' d 2 _ _ L' hd]; rfl
  · rw [List.length_append]
    exact own_set hr htd n2 _
  · intro x hx
    rcases hmem x hx with hx | rfl
    · refine (h.qs.que x hx).at_ fun b e => ?_
      have hty := (h.qs.que x hx).ty e
      rw [heap_setCell_other w' ⟨d, 2, none⟩ b _ (fun eb => n1 (h.tyD.one (by subst eb; exact hty)))]
      exact ho b _ (h.qs.fque x hx b e) hty (fun e => n3 e.symm)
    · simp only [hy]
      exact Qu.nil _ _
  · intro x hx b e
    rcases hmem x hx with hx | rfl
    · exact .inl (h.qs.fque x hx b e)
    · cases e
  · intro a b x x' g ha hb' e1 e2
    have key : ∀ (j : Nat) (z : Tq × Value), (l ++ [(y, .slice none 0 0)])[j]? = some z → z.2.ownBlock = some g → l[j]? = some z := by
      intro j z hj hz
      by_cases hjl : j < l.length
      · rw [List.getElem?_append_left hjl] at hj; exact hj
      · rw [List.getElem?_append_right (by omega)] at hj
        have h0 : j - l.length = 0 := by
          have := (List.getElem?_eq_some_iff.1 hj).1
          simp at this; omega
        rw [h0] at hj
        simp at hj
        subst hj
        cases hz
    exact h.qs.sep a b x x' g (key a x ha e1) (key b x' hb' e2) e1 e2
  · rintro b (e | e)
    · exact .inl e
    · exact (hb b e).imp (fun e => h.qs.frow b e) id
end
/-- The document's new epochs of n threads. -/
def NewD (w : World) (n : Nat) (e : Ending) (w' : World) : Prop := ∃ d F, e = .returned (ptr d) ∧ DeS F w' d 0 (List.replicate n (-1, [])) ∧ (∀ b, F b → w.heap.size ≤ b) ∧ Below w.heap.size w w'
/-- On the way there. -/
def Dk (w : World) (d k : Nat) (wr : World) : Prop := ∃ F Sv L, De F wr d 0 (List.replicate k (-1)) (List.replicate k ((-1, []), .slice none 0 0)) Sv L ∧ (∀ b, F b → w.heap.size ≤ b) ∧ Below w.heap.size w wr
theorem dk_new (w : World) : Dk w w.heap.size 0 (w.alloc (.cells #[.int .i64 0, .slice none 0 0, .slice none 0 0] deT)) :=
  ⟨fun b => b = w.heap.size, .slice none 0 0, .slice none 0 0, ⟨fun b e => by subst e; simp, heap_alloc_new w _, rfl, Row.nil _ _ _, fun b e => (by cases e), World.ownsRow_nil _ _ _ _, fun b e => (by cases e), fun x hx => (by cases hx), fun x hx => (by cases hx), fun i j x y g hi => (by simp at hi)⟩, fun b e => by omega, below_new _ _⟩

set_option maxHeartbeats 2000000 in
theorem dnew_walk (m : Int) (w : World) : Calls Try.prog 11 #[.int .i64 m] w (NewD w (mostOf m)) := by
  have HM := Lib.hid (mostOf_eq m)
  have hn := mostOf_le m
  generalize mostOf m = n at *
  obtain ⟨W, d, hW, hd, HD⟩ : ∃ (W : World) (d : Nat), w.alloc (.cells #[.int .i64 0, .slice none 0 0, .slice none 0 0] deT) = W ∧ w.heap.size = d ∧ Hid (Dk w d 0 W) := ⟨_, _, rfl, rfl, dk_new w⟩
  go_enter Try.func11, Try.ntmps11
  go_wp2_with fail
  (try rw [hW]); (try rw [hd])
  clear hW hd
  go_loopg [4] n (fun gk i wr => ∃ k : Nat, k + gk = n ∧ i = .int .i64 (k : Int) ∧ Hid (Dk w d k wr))
  case atStart => exact ⟨0, by omega, rfl, HD⟩
  case round =>
    clear HD
    obtain ⟨k, hk, rfl, HH⟩ := hrel
    by_cases hlt : k < n
    case neg =>
      obtain rfl : k = n := by omega
      have HE : Hid (NewD w k (.returned (ptr d)) wr) := by
        obtain ⟨F, Sv, L, h1, h2, h3⟩ := HH.out
        exact ⟨d, F, rfl, ⟨List.replicate k ((-1, []), .slice none 0 0), Sv, L, by rw [List.map_replicate]; exact h1, by rw [List.map_replicate]⟩, h2, h3⟩
      have hM := HM.out
      clear HH HM
      by_cases hkm : (k : Int) < m
      · have h64 : ¬ ((k : Int) < 64) := by omega
        have h64d : decide ((k : Int) < 64) = false := by simpa using h64
        clear hM
        go_wp2
        go_ret
        exact HE.out
      · have hkd : decide ((k : Int) < m) = false := by simpa using hkm
        clear hM
        go_wp2
        go_ret
        exact HE.out
    have hM := HM.out
    have i1 : (k : Int) < m := by omega
    have i2 : (k : Int) < 64 := by omega
    have hkw : IntKind.i64.wrap ((k : Int) + 1) = (k : Int) + 1 := IntWalk.i64_in _ (by omega)
    clear hM
    obtain ⟨F, Sv, L, h1, h2, h3⟩ := HH.out
    obtain ⟨c0, c1, c2⟩ := h1.cells
    -- the announcement
    obtain ⟨X1, s1, hX1, hs1, b1, y1⟩ : ∃ (X1 : World) (s1 : Nat), wr.alloc (.cells #[.int .i64 (-1)] 2) = X1 ∧ wr.heap.size = s1 ∧ Below wr.heap.size wr X1 ∧ X1.cell? ⟨s1, 0, none⟩ = some (.int .i64 (-1)) := ⟨_, _, rfl, rfl, below_new _ _, c_new rfl rfl⟩
    have g1 := h1.below b1
    obtain ⟨A2, k2, X2, hr2, hrow2, hg2, hb2⟩ := run_one g1.said y1 (by simp; omega)
    obtain ⟨g2, o2, e1, f1, hF2⟩ := g1.pushSaid hrow2 hg2 hb2
    obtain ⟨X3, hX3⟩ : ∃ X3, X2.setCell ⟨d, 1, none⟩ (.slice A2 ((List.replicate k (-1 : Int)).length + 1) k2) = X3 := ⟨_, rfl⟩
    rw [hX3] at g2 o2
    -- the queue
    obtain ⟨X4, s4, hX4, hs4, b4, y4⟩ : ∃ (X4 : World) (s4 : Nat), X3.alloc (.cells #[.slice none 0 0] slT) = X4 ∧ X3.heap.size = s4 ∧ Below X3.heap.size X3 X4 ∧ X4.cell? ⟨s4, 0, none⟩ = some (.slice none 0 0) := ⟨_, _, rfl, rfl, below_new _ _, c_new rfl rfl⟩
    have g4 := g2.below b4
    obtain ⟨-, -, c3⟩ := g2.cells
    obtain ⟨A5, k5, X5, hr5, hrow5, hg5, hb5⟩ := run_lim g4.qs.row y4 (by simp; omega) (-1, [])
    obtain ⟨g5, o5, e5, f5, hF5⟩ := g4.pushLim rfl hrow5 hg5 hb5
    have B3 : Below w.heap.size w X3 := h3.trans ((Only.of_below F b1).then o2 |>.below h2 h3.size)
    have B4 : Below w.heap.size w X4 := B3.trans (b4.mono B3.size)
    have q2 : ∀ b, (F b ∨ (Value.slice A2 ((List.replicate k (-1 : Int)).length + 1) k2).ownBlock = some b) → w.heap.size ≤ b := fun b e => by
      rcases hF2 b e with e | e
      · exact h2 b e
      · exact Nat.le_trans h3.size (Nat.le_trans b1.size e)
    have HE : Hid (Dk w d (k + 1) (X5.setCell ⟨d, 2, none⟩ (.slice A5 ((List.replicate k (((-1, []), .slice none 0 0) : Tq × Value)).length + 1) k5))) := by
      have g6 := g5
      rw [← List.replicate_succ', ← List.replicate_succ'] at g6
      refine ⟨_, _, _, g6, ?_, B4.trans (o5.below q2 B4.size)⟩
      intro b e
      rcases hF5 b e with e | e
      · exact q2 b e
      · exact Nat.le_trans B4.size e
    obtain ⟨A0, k0, rfl⟩ := h1.said.form.imp fun A h => h.imp fun c h => h.1
    obtain ⟨B0, j0, rfl⟩ := h1.qs.shape
    simp only [List.length_replicate] at hr2 hr5 hX3 HE c1 c2 c3 e1 e5
    clear g1 g2 g4 g5 o2 o5 hF2 hF5 hrow2 hrow5 hg2 hg5 hb2 hb5 h1 h2 h3 HH B3 B4 q2 c0 b1 b4 y1 y4
    go_wp2_with (at_builtin; (first | rw [hX1] | skip); (first | rw [hs1] | skip); (first | rw [hX4] | skip); (first | rw [hs4] | skip); (first | (refine Lib.wpList_append_run _ rfl _ _ _ _ rfl _ _ rfl rfl _ _ hr2 ?_) | (refine Lib.wpList_append_run _ rfl _ _ _ _ rfl _ _ rfl rfl _ _ hr5 ?_)))
    go_roundg (gk - 1)
    case measure => omega
    case rel => exact ⟨k + 1, by omega, by go_num, HE.out⟩
end Go.Proofs.Ytcainkobdkaaeaa
