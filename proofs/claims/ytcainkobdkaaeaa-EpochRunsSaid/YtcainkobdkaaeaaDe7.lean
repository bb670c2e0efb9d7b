/-
  The document's epochs in memory; what a store into them makes of them.
-/
import Derived.Test.YtcainkobdkaaeaaDr7
namespace Go.Proofs.Ytcainkobdkaaeaa
open Go.ChangeShapes Go.WideShapes Go.ChangeAt Go.RowKit
set_option linter.unusedVariables false
set_option linter.unusedSimpArgs false
set_option maxRecDepth 20000

/-- A step of a region that draws, its slot named. -/
theorem takeD {P : Program} {ops : Array Oper} {Q : Exit → Act → World → Prop} {md : Region.Mode} {C : World → Prop} {st : Nat → Bool} {listed : Array Bool} (i d : Nat) {oi : Oper} {v : Value} {n : Nat} {a : Act} {w : World} (hi : ops[i]? = some oi) (hd : oi.dst = some d)
    (hs : Region.noSelect ops = true) (hf : Region.free md ops listed i = true) (hr : (Region.ready md ops listed).contains i = true) (hwt : waits md ops st i = true)
    (hQ : ∀ c (a : Act) t w, Q (.panic c) { a with tmps := t } w → Q (.panic c) a w) (hC : C w) (hw : Region.wanted oi (yielded ops a.tmps) = true) (hy : ∀ w, C w → (execOp a.eval oi).run P w = .ok (.value v) w)
    (h : anyT P md ops Q C st n (listed.setIfInBounds i true) { a with tmps := a.tmps.setIfInBounds d v } w) : anyT P md ops Q C st (n + 1) listed a w :=
  takeT hi hs hf hr hwt (fun c a w h => by rw [hd] at h; exact hQ c a _ w h) hC hw hy (by rw [hd]; exact h)
theorem skipD {P : Program} {ops : Array Oper} {Q : Exit → Act → World → Prop} {md : Region.Mode} {C : World → Prop} {st : Nat → Bool} {listed : Array Bool} (i d : Nat) {oi : Oper} {n : Nat} {a : Act} {w : World} (hi : ops[i]? = some oi) (hd : oi.dst = some d)
    (hs : Region.noSelect ops = true) (hf : Region.free md ops listed i = true) (hr : (Region.ready md ops listed).contains i = true) (hwt : waits md ops st i = true)
    (hQ : ∀ c (a : Act) t w, Q (.panic c) { a with tmps := t } w → Q (.panic c) a w) (hC : C w) (hw : Region.wanted oi (yielded ops a.tmps) = false)
    (h : anyT P md ops Q C st n (listed.setIfInBounds i true) { a with tmps := a.tmps.setIfInBounds d undef } w) : anyT P md ops Q C st (n + 1) listed a w :=
  take_now (v := undef) hi (Region.noSelect_spec hs) (fun c a w h => by rw [hd] at h; exact hQ c a _ w h) hwt n listed a w (Region.free_spec hi hf) (List.contains_iff_mem.1 hr) (.inr ⟨hw, rfl⟩) hC (by rw [hd]; exact h)

theorem grown_below {w w' : World} (h : Below w.heap.size w w') (r : Option Nat) : w.grownBy w' r := ⟨h.os, h.tape, h.output, h.size, fun k hk _ => h.block k hk⟩
/-- 'append([]Gone{}, q...)': a copy of a queue. -/
theorem Qu.copy {sl el : TypeId} {w : World} {A : Option Addr} {n c g0 : Nat} {l : List (Int × Int)} (R : PaT sl el) (h : Qu el w (.slice A n c) l) (ty : TypeId) (hg : w.heap[g0]? = some (.cells #[] el (0, 0))) (hl : l.length ≤ 100000) :
    ∃ v' w', (Builtin.append_ #[sl, sl] ty #[.slice (some ⟨g0, 0, none⟩) 0 0, .slice A n c]).run Try.prog w = .ok v' w' ∧ Qu el w' v' l ∧ w.grownBy w' (some g0) ∧ ∀ b, v'.ownBlock = some b → b = g0 ∨ w.heap.size ≤ b := by
  obtain ⟨i0, hi0, hz0, hz1, hz2⟩ := info_parts R.info
  have hown : w.ownsRow 0 el 2 (.slice (some ⟨g0, 0, none⟩) 0 0) 0 [] := ⟨rfl, .inr ⟨g0, 0, #[], rfl, Nat.zero_le _, hg, Nat.le_refl _, Nat.zero_le _, rfl, rfl⟩⟩
  rcases h with ⟨e, rfl⟩ | ⟨g, off, c', cur, e, h1, h2, h3, h4⟩
  · injection e with e1 e2 e3
    subst e1 e2 e3
    exact ⟨_, w, run_append_owned_none (P := Try.prog) w 0 sl ty el i0 2 R.under hi0 _ 0 [] hown, Qu.of_own (l := []) hown, World.grownBy.refl _ _, fun b e => by injection e with e; exact .inl e.symm⟩
  · injection e with e1 e2 e3
    subst e1 e2 e3
    obtain ⟨v', w', hr, ho, hgr, hb⟩ := run_push (w := w) sl ty el i0 _ 2 16 R.under hi0 hz0 hz1 hz2 rfl (by omega) (.slice (some ⟨g0, 0, none⟩) 0 0) 0 [] hown ⟨g, off, none⟩ l.length c (fl l) (fl_length l)
      (fun j u hj => by rw [add_lit0, cell_of_row w g _ cur _ (0, 0) h1, h4 j u hj]) (fl_one _) (by unfold maxLen; omega) (by omega)
    exact ⟨v', w', hr, Qu.of_own (by simpa using ho), hgr, fun b e => (hb b e).imp (fun e => by injection e with e; exact e.symm) id⟩

/-- The document's row of queues. -/
def cD (l : List (Tq × Value)) : List Value := l.map (·.2)
theorem cD_at {l : List (Tq × Value)} {i : Nat} {x : Tq × Value} (h : l[i]? = some x) : (cD l)[i]? = some x.2 := by simp [cD, h]
theorem cD_set (l : List (Tq × Value)) (i : Nat) (y : Tq) (v : Value) : (cD l).set i v = cD (l.set i (y, v)) := by simp [cD, List.map_set]
abbrev deT : TypeId := 34
abbrev gdT : TypeId := 42
abbrev slT : TypeId := 40
theorem de_ne : deT ≠ gdT ∧ deT ≠ slT ∧ slT ≠ gdT ∧ 2 ≠ gdT ∧ 2 ≠ slT ∧ deT ≠ 2 := by decide
/-- The document's epochs at block d: F are their blocks. -/
structure De (F : Nat → Prop) (w : World) (d : Nat) (now : Int) (zs : List Int) (l : List (Tq × Value)) (Sv L : Value) : Prop where
  lt : ∀ b, F b → b < w.heap.size
  head : w.heap[d]? = some (.cells #[.int .i64 now, Sv, L] deT (0, 0))
  fa : F d
  said : Row 2 0 w Sv zs
  fsaid : ∀ b, Sv.ownBlock = some b → F b
  qs : Qs F w gdT slT 1 cD l L
def DeS (F : Nat → Prop) (w : World) (d : Nat) (now : Int) (S : List Tq) : Prop := ∃ l Sv L, De F w d now (l.map (·.1.1)) l Sv L ∧ S = l.map (·.1)
def NxD (F : Nat → Prop) (w : World) (d : Nat) (now : Int) (S : List Tq) (w' : World) : Prop := ∃ F', DeS F' w' d now S ∧ Only F w w' ∧ ∀ b, F' b → F b ∨ w.heap.size ≤ b
section
variable {F G : Nat → Prop} {w w' : World} {d i : Nat} {now : Int} {S : List Tq} {zs : List Int} {l : List (Tq × Value)} {Sv L : Value} {x : Tq × Value}
theorem De.keep (h : De F w d now zs l Sv L) (hb : ∀ b, F b → w'.heap[b]? = w.heap[b]?) (hs : w.heap.size ≤ w'.heap.size) : De F w' d now zs l Sv L :=
  ⟨fun b e => Nat.lt_of_lt_of_le (h.lt b e) hs, (hb d h.fa).trans h.head, h.fa, own_at h.said fun b e => hb b (h.fsaid b e), h.fsaid, h.qs.keep hb⟩
theorem De.below (h : De F w d now zs l Sv L) (hb : Below w.heap.size w w') : De F w' d now zs l Sv L := h.keep (fun b hF => hb.block b (h.lt b hF)) hb.size
theorem De.only (h : De F w d now zs l Sv L) (hb : Only G w w') (hd : ∀ b, F b → ¬ G b) : De F w' d now zs l Sv L := h.keep (fun b hF => hb.block b (h.lt b hF) (hd b hF)) hb.size
theorem DeS.below (h : DeS F w d now S) (hb : Below w.heap.size w w') : DeS F w' d now S := by obtain ⟨l, Sv, L, h, e⟩ := h; exact ⟨l, Sv, L, h.below hb, e⟩
theorem DeS.only (h : DeS F w d now S) (hb : Only G w w') (hd : ∀ b, F b → ¬ G b) : DeS F w' d now S := by obtain ⟨l, Sv, L, h, e⟩ := h; exact ⟨l, Sv, L, h.only hb hd, e⟩
theorem DeS.lt (h : DeS F w d now S) : ∀ b, F b → b < w.heap.size := by obtain ⟨l, Sv, L, h, e⟩ := h; exact h.lt
theorem NxD.same (h : DeS F w d now S) : NxD F w d now S w := ⟨F, h, Only.refl _ _, fun _ e => .inl e⟩
theorem nxd_after {W : World} (hb : Below w.heap.size w W) (h : NxD F W d now S w') : NxD F w d now S w' := by
  obtain ⟨F', h1, h2, h3⟩ := h
  exact ⟨F', h1, (Only.of_below F hb).then h2, fun b e => (h3 b e).imp id (fun e => Nat.le_trans hb.size e)⟩
theorem De.cells (h : De F w d now zs l Sv L) : w.cell? ⟨d, 0, none⟩ = some (.int .i64 now) ∧ w.cell? ⟨d, 1, none⟩ = some Sv ∧ w.cell? ⟨d, 2, none⟩ = some L := by
  refine ⟨?_, ?_, ?_⟩ <;> (rw [cell_of_row w d _ _ _ (0, 0) h.head]; rfl)
theorem De.free (h : De F w d now zs l Sv L) (j : Nat) : w.frozen? ⟨d, j, none⟩ = false := frozen_of_row w d j _ _ h.head
theorem De.tyD (h : De F w d now zs l Sv L) : Ty w d deT := ⟨_, h.head⟩
/-- The rest, behind a store into the head. -/
theorem De.off (h : De F w d now zs l Sv L) (j : Nat) (u : Value) : Row 2 0 (w.setCell ⟨d, j, none⟩ u) Sv zs ∧ Qs F (w.setCell ⟨d, j, none⟩ u) gdT slT 1 cD l L := by
  obtain ⟨n1, n2, n3, n4, n5, n6⟩ := de_ne
  refine ⟨own_set h.said h.tyD n6 _, own_set h.qs.row h.tyD n2 _, h.qs.frow, fun x hx => (h.qs.que x hx).at_ fun b e => heap_setCell_other w ⟨d, j, none⟩ b _ (fun eb => n1 (h.tyD.one (by subst eb; exact (h.qs.que x hx).ty e))), h.qs.fque, h.qs.sep⟩
theorem De.next (h : De F w d now zs l Sv L) (n : Int) : De F (w.setCell ⟨d, 0, none⟩ (.int .i64 n)) d n zs l Sv L ∧ Only F w (w.setCell ⟨d, 0, none⟩ (.int .i64 n)) :=
  ⟨⟨fun b e => by simpa using h.lt b e, heap_setCell_same w d 0 _ _ _ h.head, h.fa, (h.off 0 _).1, h.fsaid, (h.off 0 _).2⟩, Only.set F w (p := ⟨d, 0, none⟩) h.fa _⟩
/-- What a thread announced. -/
theorem De.saidAt (h : De F w d now zs l Sv L) (hi : i < zs.length) : ∃ g c, Sv = .slice (some ⟨g, 0, none⟩) zs.length c ∧ w.cell? ⟨g, i, none⟩ = some (.int .i64 (zs.getD i 0)) ∧ w.frozen? ⟨g, i, none⟩ = false ∧
    ∀ z, De F (w.setCell ⟨g, i, none⟩ (.int .i64 z)) d now (zs.set i z) l Sv L ∧ Only F w (w.setCell ⟨g, i, none⟩ (.int .i64 z)) := by
  obtain ⟨n1, n2, n3, n4, n5, n6⟩ := de_ne
  obtain ⟨g, c, u, hS, -, hgl, -, hc, hf, hp⟩ := h.said.put hi
  have hty : Ty w g 2 := own_ty h.said (by rw [hS]; rfl)
  have hFg : F g := h.fsaid g (by rw [hS]; rfl)
  refine ⟨g, c, hS, ?_, hf, fun z => ⟨⟨fun b e => by simpa using h.lt b e, ?_, h.fa, (hp z).1, h.fsaid, ?_⟩, Only.set F w (p := ⟨g, i, none⟩) hFg _⟩⟩
  · have h2 := h.said
    rw [hS] at h2
    have := World.ownsRow.cellAt h2 i (by omega)
    rw [this]
    simp [ints, hi]
  · rw [heap_setCell_other w ⟨g, i, none⟩ d _ (fun e => n6 (h.tyD.one (by subst e; exact hty)))]
    exact h.head
  · exact ⟨own_set h.qs.row hty n5 _, h.qs.frow, fun x hx => (h.qs.que x hx).at_ fun b e => heap_setCell_other w ⟨g, i, none⟩ b _ (fun eb => n4 (hty.one (by subst eb; exact (h.qs.que x hx).ty e))), h.qs.fque, h.qs.sep⟩
/-- The nodes that a thread let go. -/
theorem De.qAt (h : De F w d now zs l Sv L) (hi : l[i]? = some x) : ∃ g c, L = .slice (some ⟨g, 0, none⟩) l.length c ∧ g < w.heap.size ∧ l.length ≤ c ∧ i < l.length ∧ w.cell? ⟨g, i, none⟩ = some x.2 ∧ ∀ j, w.frozen? ⟨g, j, none⟩ = false := by
  obtain ⟨g, c, hT, hg, -, -, hc, hcell, hf⟩ := h.qs.form hi
  have hil : i < l.length := (List.getElem?_eq_some_iff.1 hi).1
  exact ⟨g, c, hT, hg, hc, hil, by rw [hcell _ (by omega)]; exact cD_at hi, hf⟩
theorem De.queue (h : De F w d now zs l Sv L) (hi : l[i]? = some x) {v : Value} {q : List (Int × Int)} (hg : w.grownBy w' x.2.ownBlock) (hq : Qu gdT w' v q) (hb : ∀ b, v.ownBlock = some b → x.2.ownBlock = some b ∨ w.heap.size ≤ b)
    {g c : Nat} (hT : L = .slice (some ⟨g, 0, none⟩) l.length c) (hzs : zs = l.map (·.1.1)) :
    NxD F w d now ((l.map (·.1)).set i (x.1.1, q)) (w'.setCell ⟨g, i, none⟩ v) ∧ w'.cell? ⟨g, i, none⟩ = some x.2 ∧ w'.frozen? ⟨g, i, none⟩ = false := by
  obtain ⟨n1, n2, n3, n4, n5, n6⟩ := de_ne
  have hil : i < l.length := (List.getElem?_eq_some_iff.1 hi).1
  obtain ⟨h1, h2, h3, h4, h5, h6⟩ := h.qs.put hi (k := i) (u := v) (v := v) (y := (x.1.1, q)) (G := fun b => F b ∨ v.ownBlock = some b) (by omega) (cD_set l i _ v) hg hq hb h.lt n3 (fun _ e => .inl e) (fun _ e => .inr e) hT
  have hset : (l.set i ((x.1.1, q), v)).map (·.1.1) = zs := by
    rw [hzs, List.map_set]
    apply List.ext_getElem?
    intro j
    rw [List.getElem?_set]
    by_cases e : i = j
    · subst e
      rw [if_pos rfl, if_pos (by simpa using hil), List.getElem?_map, hi]
      rfl
    · rw [if_neg e]
  refine ⟨⟨_, ⟨_, Sv, _, ⟨?_, (h6 d _ h.tyD n1 n2).trans h.head, .inl h.fa, ?_, fun b e => .inl (h.fsaid b e), h1⟩, by rw [List.map_set]⟩, h2, ?_⟩, by rw [h3]; exact cD_at hi, h4⟩
  · rintro b (e | e)
    · exact Nat.lt_of_lt_of_le (h.lt b e) h5
    · simpa using hq.lt e
  · rw [hset]
    exact own_at h.said fun b e => h6 b _ (own_ty h.said e) n4 n5
  · rintro b (e | e)
    · exact .inl e
    · exact (hb b e).imp (fun e => h.qs.fque x (List.mem_of_getElem? hi) b e) id
theorem DeS.at_ (h : DeS F w d now S) {y : Tq} (hi : S[i]? = some y) : ∃ l Sv L x, De F w d now (l.map (·.1.1)) l Sv L ∧ S = l.map (·.1) ∧ l[i]? = some x ∧ x.1 = y := by
  obtain ⟨l, Sv, L, h, rfl⟩ := h
  rw [List.getElem?_map] at hi
  cases e : l[i]? with
  | none => rw [e] at hi; cases hi
  | some x => rw [e] at hi; exact ⟨l, Sv, L, x, h, rfl, e, by simpa using hi⟩
end
end Go.Proofs.Ytcainkobdkaaeaa
