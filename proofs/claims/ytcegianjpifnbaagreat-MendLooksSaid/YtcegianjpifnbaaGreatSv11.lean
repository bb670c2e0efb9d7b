/-
  A way's steps in memory; what seek's look tells.
-/
import Derived.Test.YtcegianjpifnbaaGreatSw11
import Derived.Test.YtcegianjpifnbaaGreatLt10
namespace Go.Proofs.YtcegianjpifnbaaGreat
open Go.ChangeShapes Go.WideShapes Go.ChangeAt Go.RowKit
set_option linter.unusedVariables false
set_option linter.unusedSimpArgs false
set_option maxRecDepth 20000

abbrev stT : TypeId := 100
abbrev kyT : TypeId := 2
abbrev stv (rf : Int) (x y : Bool) (pv kv zv : Value) (wy : Int) : Value := .agg #[.int .i64 rf, .bool x, .bool y, pv, kv, zv, .int .i64 wy]
/-- A variable of seven cells. -/
def Sev (w : World) (b : Nat) (rf : Int) (x y : Bool) (pv kv zv : Value) (wy : Int) : Prop := w.heap[b]? = some (.cells #[.int .i64 rf, .bool x, .bool y, pv, kv, zv, .int .i64 wy] stT (0, 0))
section
variable {w w' : World} {b : Nat} {rf wy rf' wy' : Int} {x y x' y' : Bool} {pv kv zv pv' kv' zv' : Value}
theorem Sev.cells (h : Sev w b rf x y pv kv zv wy) : w.cell? ⟨b, 0, none⟩ = some (.int .i64 rf) ∧ w.cell? ⟨b, 1, none⟩ = some (.bool x) ∧ w.cell? ⟨b, 2, none⟩ = some (.bool y) ∧ w.cell? ⟨b, 3, none⟩ = some pv ∧ w.cell? ⟨b, 4, none⟩ = some kv ∧ w.cell? ⟨b, 5, none⟩ = some zv ∧ w.cell? ⟨b, 6, none⟩ = some (.int .i64 wy) := by
  refine ⟨?_, ?_, ?_, ?_, ?_, ?_, ?_⟩ <;> (rw [cell_of_row w b _ _ _ (0, 0) h]; rfl)
theorem Sev.free (h : Sev w b rf x y pv kv zv wy) (j : Nat) : w.frozen? ⟨b, j, none⟩ = false := frozen_of_row w b j _ _ h
theorem Sev.frees (h : Sev w b rf x y pv kv zv wy) : w.frozen? ⟨b, 0, none⟩ = false ∧ w.frozen? ⟨b, 1, none⟩ = false ∧ w.frozen? ⟨b, 2, none⟩ = false ∧ w.frozen? ⟨b, 3, none⟩ = false ∧ w.frozen? ⟨b, 4, none⟩ = false ∧ w.frozen? ⟨b, 5, none⟩ = false ∧ w.frozen? ⟨b, 6, none⟩ = false := ⟨h.free 0, h.free 1, h.free 2, h.free 3, h.free 4, h.free 5, h.free 6⟩
theorem Sev.below (h : Sev w b rf x y pv kv zv wy) (hb : Below w.heap.size w w') : Sev w' b rf x y pv kv zv wy := (hb.block b (Array.getElem?_eq_some_iff.1 h).1).trans h
theorem Sev.at_ (h : Sev w b rf x y pv kv zv wy) (hb : w'.heap[b]? = w.heap[b]?) : Sev w' b rf x y pv kv zv wy := hb.trans h
theorem Sev.lt (h : Sev w b rf x y pv kv zv wy) : b < w.heap.size := (Array.getElem?_eq_some_iff.1 h).1
theorem Sev.new (w : World) {b : Nat} (hb : w.heap.size = b) (rf : Int) (x y : Bool) (pv kv zv : Value) (wy : Int) : Sev (w.alloc (.cells #[.int .i64 rf, .bool x, .bool y, pv, kv, zv, .int .i64 wy] stT)) b rf x y pv kv zv wy := by subst hb; exact heap_alloc_new w _
theorem Sev.set6 (h : Sev w b rf x y pv kv zv wy) (u : Int) : Sev (w.setCell ⟨b, 6, none⟩ (.int .i64 u)) b rf x y pv kv zv u := heap_setCell_same w b 6 _ _ (.int .i64 u) h
/-- The seven stores of a step into a variable. -/
abbrev put7 (w : World) (R : Nat) (rf : Int) (x y : Bool) (pv kv zv : Value) (wy : Int) : World := ((((((w.setCell ⟨R, 0, none⟩ (.int .i64 rf)).setCell ⟨R, 1, none⟩ (.bool x)).setCell ⟨R, 2, none⟩ (.bool y)).setCell ⟨R, 3, none⟩ pv).setCell ⟨R, 4, none⟩ kv).setCell ⟨R, 5, none⟩ zv).setCell ⟨R, 6, none⟩ (.int .i64 wy)
theorem Sev.put {R : Nat} (h : Sev w R rf' x' y' pv' kv' zv' wy') : Sev (put7 w R rf x y pv kv zv wy) R rf x y pv kv zv wy := by
  unfold Sev at h
  unfold put7
  have h0 : (w.setCell ⟨R, 0, none⟩ (.int .i64 rf)).heap[R]? = some (.cells #[.int .i64 rf, .bool x', .bool y', pv', kv', zv', .int .i64 wy'] stT (0, 0)) := heap_setCell_same w R 0 _ _ _ h
  generalize w.setCell ⟨R, 0, none⟩ (.int .i64 rf) = w0 at h0 ⊢
  have h1 : (w0.setCell ⟨R, 1, none⟩ (.bool x)).heap[R]? = some (.cells #[.int .i64 rf, .bool x, .bool y', pv', kv', zv', .int .i64 wy'] stT (0, 0)) := heap_setCell_same w0 R 1 _ _ _ h0
  generalize w0.setCell ⟨R, 1, none⟩ (.bool x) = w1 at h1 ⊢
  have h2 : (w1.setCell ⟨R, 2, none⟩ (.bool y)).heap[R]? = some (.cells #[.int .i64 rf, .bool x, .bool y, pv', kv', zv', .int .i64 wy'] stT (0, 0)) := heap_setCell_same w1 R 2 _ _ _ h1
  generalize w1.setCell ⟨R, 2, none⟩ (.bool y) = w2 at h2 ⊢
  have h3 : (w2.setCell ⟨R, 3, none⟩ pv).heap[R]? = some (.cells #[.int .i64 rf, .bool x, .bool y, pv, kv', zv', .int .i64 wy'] stT (0, 0)) := heap_setCell_same w2 R 3 _ _ _ h2
  generalize w2.setCell ⟨R, 3, none⟩ pv = w3 at h3 ⊢
  have h4 : (w3.setCell ⟨R, 4, none⟩ kv).heap[R]? = some (.cells #[.int .i64 rf, .bool x, .bool y, pv, kv, zv', .int .i64 wy'] stT (0, 0)) := heap_setCell_same w3 R 4 _ _ _ h3
  generalize w3.setCell ⟨R, 4, none⟩ kv = w4 at h4 ⊢
  have h5 : (w4.setCell ⟨R, 5, none⟩ zv).heap[R]? = some (.cells #[.int .i64 rf, .bool x, .bool y, pv, kv, zv, .int .i64 wy'] stT (0, 0)) := heap_setCell_same w4 R 5 _ _ _ h4
  generalize w4.setCell ⟨R, 5, none⟩ zv = w5 at h5 ⊢
  exact heap_setCell_same w5 R 6 _ _ _ h5
theorem only_put7 (w : World) (R : Nat) (rf : Int) (x y : Bool) (pv kv zv : Value) (wy : Int) : Only (· = R) w (put7 w R rf x y pv kv zv wy) :=
  ((((((Only.set (· = R) w (p := ⟨R, 0, none⟩) rfl _).then (Only.set (· = R) _ (p := ⟨R, 1, none⟩) rfl _)).then (Only.set (· = R) _ (p := ⟨R, 2, none⟩) rfl _)).then (Only.set (· = R) _ (p := ⟨R, 3, none⟩) rfl _)).then (Only.set (· = R) _ (p := ⟨R, 4, none⟩) rfl _)).then (Only.set (· = R) _ (p := ⟨R, 5, none⟩) rfl _)).then (Only.set (· = R) _ (p := ⟨R, 6, none⟩) rfl _)
theorem load_sev {R : Nat} (h : Sev w R rf x y pv kv zv wy) : (loadVar stT ⟨R, 0, none⟩).run Tryz.prog w = .ok (stv rf x y pv kv zv wy) w := by
  obtain ⟨e0, e1, e2, e3, e4, e5, e6⟩ := h.cells
  simp [go_sem, e0, e1, e2, e3, e4, e5, e6]
theorem results_sev {R : Nat} {fn : Func} {t : Tmp} {tmps : Array Value} (h : fn.results = #[.cell t stT]) (ht : tmps.getD t undef = .pointer (some ⟨R, 0, none⟩))
    (h8 : Sev w R rf x y pv kv zv wy) : (results fn tmps).run Tryz.prog w = .ok (stv rf x y pv kv zv wy) w := by
  have := load_sev h8
  have ht' : tmps[t]?.getD undef = .pointer (some ⟨R, 0, none⟩) := by simpa using ht
  simp [results, h, ht', asAddr, this]
end
/-- A step. -/
structure Sp where
  rf : Int
  nd : Nd
  wy : Int
/-- A node's slices, in blocks of Y. -/
structure Nv (nd : Nd) (Y : Nat → Prop) (w : World) (pv kv zv : Value) : Prop where
  p : Prs 0 w pv nd.ps
  k : Row kyT 0 w kv nd.ks
  z : Row rfT 0 w zv nd.zs
  own : ∀ b, pv.ownBlock = some b ∨ kv.ownBlock = some b ∨ zv.ownBlock = some b → Y b
theorem Nv.keep {nd : Nd} {Y Y' : Nat → Prop} {w w' : World} {pv kv zv : Value} (h : Nv nd Y w pv kv zv) (hb : ∀ b, Y b → (∃ t, t ≠ stT ∧ Ty w b t) → w'.heap[b]? = w.heap[b]?) (hY : ∀ b, Y b → Y' b) : Nv nd Y' w' pv kv zv :=
  ⟨own_at h.p fun b e => hb b (h.own b (.inl e)) ⟨_, by decide, own_ty h.p e⟩, own_at h.k fun b e => hb b (h.own b (.inr (.inl e))) ⟨_, by decide, own_ty h.k e⟩, own_at h.z fun b e => hb b (h.own b (.inr (.inr e))) ⟨_, by decide, own_ty h.z e⟩, fun b e => hY b (h.own b e)⟩
/-- A step, as seven cells. -/
def SpR (x : Sp) (cs : List Value) (Y : Nat → Prop) (w : World) : Prop := ∃ pv kv zv, cs = [.int .i64 x.rf, .bool x.nd.inn, .bool x.nd.tag, pv, kv, zv, .int .i64 x.wy] ∧ Nv x.nd Y w pv kv zv
theorem SpR.len {x : Sp} {cs : List Value} {Y : Nat → Prop} {w : World} (h : SpR x cs Y w) : cs.length = 7 := by obtain ⟨_, _, _, rfl, _⟩ := h; rfl
theorem SpR.keep {x : Sp} {cs : List Value} {Y Y' : Nat → Prop} {w w' : World} (h : SpR x cs Y w) (hb : ∀ b, Y b → (∃ t, t ≠ stT ∧ Ty w b t) → w'.heap[b]? = w.heap[b]?) (hY : ∀ b, Y b → Y' b) : SpR x cs Y' w' := by
  obtain ⟨pv, kv, zv, e, h1⟩ := h
  exact ⟨pv, kv, zv, e, h1.keep hb hY⟩
/-- Steps in a slice, in blocks of Y. -/
structure SpL (l : List Sp) (Y : Nat → Prop) (w : World) (v : Value) : Prop where
  rows : ∃ cs : List (List Value), cs.length = l.length ∧ (∀ (i : Nat) (x : Sp) (c : List Value), l[i]? = some x → cs[i]? = some c → SpR x c Y w) ∧ w.ownsRow 0 stT 7 v l.length cs.flatten
  own : ∀ b, v.ownBlock = some b → Y b
theorem SpL.nil (Y : Nat → Prop) (w : World) : SpL [] Y w (.slice none 0 0) := ⟨⟨[], rfl, fun i x c h => by simp at h, World.ownsRow_nil _ _ _ _⟩, fun b e => by cases e⟩
theorem SpL.keep {l : List Sp} {Y Y' : Nat → Prop} {w w' : World} {v : Value} (h : SpL l Y w v) (hb : ∀ b, Y b → w'.heap[b]? = w.heap[b]?) (hY : ∀ b, Y b → Y' b) : SpL l Y' w' v := by
  obtain ⟨⟨cs, h1, h2, h3⟩, h4⟩ := h
  exact ⟨⟨cs, h1, fun i x c e1 e2 => (h2 i x c e1 e2).keep (fun b e _ => hb b e) hY, own_at h3 fun b e => hb b (h4 b e)⟩, fun b e => hY b (h4 b e)⟩
theorem SpL.shape {l : List Sp} {Y : Nat → Prop} {w : World} {v : Value} (h : SpL l Y w v) : ∃ A c, v = .slice A l.length c ∧ (l = [] ∨ ∃ g, A = some ⟨g, 0, none⟩) := by
  obtain ⟨⟨cs, h1, h2, h3⟩, h4⟩ := h
  rcases h3.2 with ⟨e, h0⟩ | ⟨g, cap, cur, e, _⟩
  · exact ⟨none, 0, by rw [h0]; exact e, .inl (List.eq_nil_of_length_eq_zero h0)⟩
  · exact ⟨_, _, e, .inr ⟨g, rfl⟩⟩
theorem st_info : (Tryz.prog.info? 100).map (fun i => (i.zero, i.size, i.bytes)) = some (some (.agg #[.int .i64 0, .bool false, .bool false, .slice none 0 0, .slice none 0 0, .slice none 0 0, .int .i64 0]), 7, 96) := by kernel_rfl
theorem flatN_len {n : Nat} {cs : List (List Value)} (h : ∀ c ∈ cs, c.length = n) : cs.flatten.length = cs.length * n := by
  induction cs with
  | nil => simp
  | cons c cs ih => rw [List.flatten_cons, List.length_append, h c (List.mem_cons_self ..), ih fun c hc => h c (List.mem_cons_of_mem _ hc), List.length_cons, Nat.succ_mul]; omega
theorem flatN_at {n : Nat} {cs : List (List Value)} (h : ∀ c ∈ cs, c.length = n) {i k : Nat} {c : List Value} (hc : cs[i]? = some c) (hk : k < n) : cs.flatten[i * n + k]? = c[k]? := by
  induction cs generalizing i with
  | nil => cases hc
  | cons c0 cs ih =>
    have h0 := h c0 (List.mem_cons_self ..)
    rw [List.flatten_cons]
    cases i with
    | zero =>
      injection hc with hc
      subst hc
      rw [Nat.zero_mul, Nat.zero_add, List.getElem?_append_left (by omega)]
    | succ i =>
      rw [Nat.succ_mul, List.getElem?_append_right (by omega), h0, show i * n + n + k - n = i * n + k from by omega]
      exact ih (fun c hc => h c (List.mem_cons_of_mem _ hc)) hc
/-- A step more. -/
theorem SpL.push {l : List Sp} {x : Sp} {c : List Value} {Y : Nat → Prop} {w : World} {v : Value} {g : Nat} (h : SpL l Y w v) (hx : SpR x c Y w) (hg : w.heap[g]? = some (.cells c.toArray stT (0, 0))) (hn : l.length ≤ 100000) :
    ∃ A' c' Z, (Builtin.append_ #[94, 94] 94 #[v, .slice (some ⟨g, 0, none⟩) 1 1]).run Tryz.prog w = .ok (.slice A' (l.length + 1) c') Z ∧ SpL (l ++ [x]) (fun b => Y b ∨ w.heap.size ≤ b) Z (.slice A' (l.length + 1) c') ∧ w.grownBy Z v.ownBlock ∧ ∀ b, (Value.slice A' (l.length + 1) c').ownBlock = some b → v.ownBlock = some b ∨ w.heap.size ≤ b := by
  obtain ⟨⟨cs, h1, h2, h3⟩, h4⟩ := h
  obtain ⟨i0, hi0, hz0, hz1, hz2⟩ := info_parts st_info
  have hcl := hx.len
  have hx0 := hx
  obtain ⟨pv, kv, zv, hce, hw⟩ := hx
  obtain ⟨P1, n1, q1, rfl⟩ := hw.p.shape
  obtain ⟨P2, n2, q2, rfl⟩ := hw.k.shape
  obtain ⟨P3, n3, q3, rfl⟩ := hw.z.shape
  obtain ⟨v', Z, q1', q2', q3', q4'⟩ := run_push (w := w) 94 94 stT i0 _ 7 96 Tryz.underlying94 hi0 hz0 hz1 hz2 rfl (by omega) v l.length cs.flatten h3 ⟨g, 0, none⟩ 1 1 c (by rw [hcl])
    (by
      intro j u hj
      rw [add_lit0, cell_of_row w g _ _ _ (0, 0) hg]
      simpa using hj) (by rw [hce]; intro u hu; simp at hu; rcases hu with rfl | rfl | rfl | rfl | rfl | rfl | rfl <;> rfl) (by unfold maxLen; omega) (by omega)
  have hv : ∃ A' c', v' = .slice A' (l.length + 1) c' := by
    rcases q2'.2 with ⟨rfl, h0⟩ | ⟨g, cap, cur, rfl, _⟩
    · omega
    · exact ⟨_, _, rfl⟩
  obtain ⟨A', c', rfl⟩ := hv
  have keep : ∀ b, (∃ t, t ≠ stT ∧ Ty w b t) → Z.heap[b]? = w.heap[b]? := fun b ⟨t, ht, h1⟩ => q3'.block b (by obtain ⟨cs, hcs⟩ := h1; exact (Array.getElem?_eq_some_iff.1 hcs).1) fun e => ht (h1.one (own_ty h3 e.symm))
  refine ⟨A', c', Z, q1', ⟨⟨cs ++ [c], by simp [h1], fun i y d e1 e2 => ?_, ?_⟩, fun b e => ?_⟩, q3', q4'⟩
  · by_cases hi : i < l.length
    · rw [List.getElem?_append_left hi] at e1
      rw [List.getElem?_append_left (by omega)] at e2
      exact (h2 i y d e1 e2).keep (fun b _ t => keep b t) fun b e => .inl e
    · have hi2 : i = l.length := by have := (List.getElem?_eq_some_iff.1 e1).1; simp at this; omega
      subst hi2
      rw [List.getElem?_append_right (Nat.le_refl _), Nat.sub_self] at e1
      rw [← h1, List.getElem?_append_right (Nat.le_refl _), Nat.sub_self] at e2
      injection e1 with e1
      injection e2 with e2
      subst e1 e2
      exact hx0.keep (fun b _ t => keep b t) fun b e => .inl e
  · rw [List.flatten_append, List.length_append, List.flatten_cons, List.flatten_nil, List.append_nil]; exact q2'
  · rcases q4' b e with e | e
    · exact .inl (h4 b e)
    · exact .inr e
/-- Its cells. -/
theorem SpL.at_ {l : List Sp} {Y : Nat → Prop} {w : World} {A : Option Addr} {n c : Nat} {i : Nat} {x : Sp} (h : SpL l Y w (.slice A n c)) (hi : l[i]? = some x) : ∃ g pv kv zv, A = some ⟨g, 0, none⟩ ∧ n = l.length ∧ Y g ∧ Nv x.nd Y w pv kv zv ∧
    w.cell? ⟨g, i * 7, none⟩ = some (.int .i64 x.rf) ∧ w.cell? ⟨g, i * 7 + 1, none⟩ = some (.bool x.nd.inn) ∧ w.cell? ⟨g, i * 7 + 2, none⟩ = some (.bool x.nd.tag) ∧ w.cell? ⟨g, i * 7 + 3, none⟩ = some pv ∧ w.cell? ⟨g, i * 7 + 4, none⟩ = some kv ∧ w.cell? ⟨g, i * 7 + 5, none⟩ = some zv ∧ w.cell? ⟨g, i * 7 + 6, none⟩ = some (.int .i64 x.wy) := by
  obtain ⟨⟨cs, h1, h2, h3⟩, h4⟩ := h
  have hl := (List.getElem?_eq_some_iff.1 hi).1
  have hc : cs[i]? = some cs[i] := List.getElem?_eq_getElem (by omega)
  obtain ⟨pv, kv, zv, e, k1⟩ := h2 i x _ hi hc
  have hlens : ∀ c ∈ cs, c.length = 7 := by
    intro c hc
    obtain ⟨i, hi, rfl⟩ := List.mem_iff_getElem.1 hc
    exact (h2 i l[i] _ (List.getElem?_eq_getElem (by omega)) (List.getElem?_eq_getElem hi)).len
  have hr := h3
  rcases h3.2 with ⟨e0, h0⟩ | ⟨g, cap, cur, e0, _⟩
  · omega
  · injection e0 with e1 e2 e3
    subst e1 e2 e3
    have cell : ∀ k, k < 7 → ∀ u, cs[i][k]? = some u → w.cell? ⟨g, i * 7 + k, none⟩ = some u := fun k hk u hu => by
      rw [World.ownsRow.cellAt hr (i * 7 + k) (by omega), flatN_at hlens hc hk]; exact hu
    rw [e] at cell
    exact ⟨g, pv, kv, zv, rfl, rfl, h4 g rfl, k1, cell 0 (by omega) _ rfl, cell 1 (by omega) _ rfl, cell 2 (by omega) _ rfl, cell 3 (by omega) _ rfl, cell 4 (by omega) _ rfl, cell 5 (by omega) _ rfl, cell 6 (by omega) _ rfl⟩
/-- Which way of a node goes on. -/
def wyOf (nd : Nd) (key : Int) : Int := if nd.inn = true then ((heldW (wayL nd.ks key) nd.zs.length : Nat) : Int) else 0
/-- What look answers. -/
def LkU (x : Sp) (Y : Nat → Prop) (w : World) (v : Value) : Prop := ∃ pv kv zv, v = stv x.rf x.nd.inn x.nd.tag pv kv zv x.wy ∧ Nv x.nd Y w pv kv zv
theorem look_boxes (w : World) (a W me : Nat) : ∃ (X : World) (p q : Nat), (w.alloc (.cells #[ptr a, ptr W, .int .i64 (me : Int)] tkT)).alloc (.cells #[.int .i64 0, .bool false, .bool false, .slice none 0 0, .slice none 0 0, .slice none 0 0, .int .i64 0] stT) = X ∧ w.heap.size = p ∧ p + 1 = q ∧ Below w.heap.size w X ∧ Tk X p a W me ∧ Sev X q 0 false false (.slice none 0 0) (.slice none 0 0) (.slice none 0 0) 0 ∧ X.heap.size = q + 1 :=
  ⟨_, _, _, rfl, rfl, rfl, ((Below.refl _ w).alloc (Nat.le_refl _) _).alloc (by simp) _, (Tk.new w a W me).cells (by
    have := below_new (w.alloc (.cells #[ptr a, ptr W, .int .i64 (me : Int)] tkT)) (.cells #[.int .i64 0, .bool false, .bool false, .slice none 0 0, .slice none 0 0, .slice none 0 0, .int .i64 0] stT)
    exact this.block _ (by simp)), Sev.new _ (by simp) _ _ _ _ _ _ _, by simp⟩
theorem look_end {w X w1 Z : World} {b R : Nat} {nd : Nd} {pv kv zv : Value} (hb : Below w.heap.size w Z) (hX : Below w.heap.size w X) (hs : X.heap.size = R + 1) (h1 : Prs X.heap.size w1 pv nd.ps) (h2 : Row kyT X.heap.size w1 kv nd.ks) (h3 : Row rfT X.heap.size w1 zv nd.zs) (hw1 : Below X.heap.size X w1) (hZ : Below w1.heap.size w1 Z) (e1 : w.heap.size = b) (e2 : b + 1 = R) {V : World} (hV : Only (fun x => x = R) Z V) :
    Nv nd (fun b' => w.heap.size ≤ b' ∧ b' < V.heap.size) V pv kv zv ∧ Below w.heap.size w V := by
  have hsz : X.heap.size ≤ w1.heap.size := hw1.size
  have hlt : ∀ {v : Value} {e : TypeId} {size n : Nat} {xs : List Value}, w1.ownsRow X.heap.size e size v n xs → ∀ b', v.ownBlock = some b' → R < b' ∧ b' < w1.heap.size ∧ V.heap[b']? = w1.heap[b']? := fun h b' e => by
    have := World.ownsRow.lt h b' e
    have h5 : b' < w1.heap.size := this.2
    have h6 : X.heap.size ≤ b' := this.1
    have h7 := hZ.size
    exact ⟨by omega, h5, (hV.block b' (by omega) (by omega)).trans (hZ.block b' h5)⟩
  have hs2 : w1.heap.size ≤ V.heap.size := Nat.le_trans hZ.size hV.size
  have hws : w.heap.size ≤ X.heap.size := hX.size
  refine ⟨⟨own_at (h1.lower (Nat.zero_le _)) fun b' e => (hlt h1 b' e).2.2, own_at (h2.lower (Nat.zero_le _)) fun b' e => (hlt h2 b' e).2.2, own_at (h3.lower (Nat.zero_le _)) fun b' e => (hlt h3 b' e).2.2, ?_⟩, hb.trans (hV.below (fun x e => by omega) (by have := hb.size; omega))⟩
  rintro b' (e | e | e)
  · have := hlt h1 b' e; exact ⟨by omega, by omega⟩
  · have := hlt h2 b' e; exact ⟨by omega, by omega⟩
  · have := hlt h3 b' e; exact ⟨by omega, by omega⟩
set_option maxHeartbeats 4000000 in
theorem slook_walk {d : Wd} {FW : Nat → Prop} {w : World} {s : Sig} {a me i : Nat} {p : Pa} {r key : Int} (h : WS d FW w s) (hlen : s.ar.pls.length ≤ 70000) (hcnt : ∀ p ∈ s.ar.pls, p.cnt ≤ 1000000) (hh : s.ar.hit r = some (i, p)) (hsm : p.nd.small) (ha : Asc1 p.nd.ks) :
    Calls Tryz.prog 59 #[tkV a d.W me, .int .i64 r, .int .i64 key] w fun e w' => ∃ v, e = .returned v ∧ LkU ⟨r, p.nd, wyOf p.nd key⟩ (fun b => w.heap.size ≤ b ∧ b < w'.heap.size) w' v ∧ Below w.heap.size w w' := by
  obtain ⟨nd, hnd⟩ : ∃ nd, p.nd = nd := ⟨_, rfl⟩
  obtain ⟨X, b, R, hX, hb, hR, bb, tk, e1, hsz⟩ := look_boxes w a d.W me
  have HL : Hid (Calls Tryz.prog 50 #[ptr d.A, .int .i64 r] X (MadeN X nd)) := by
    rw [← hnd]
    exact nxW_look0 (h.below bb) hlen hcnt hh
  have g0 : X.cell? ⟨d.W, 0, none⟩ = some (ptr d.A) := below_read bb h.cells.1
  rw [hnd] at hsm ha ⊢
  have HE1 := Lib.hid e1
  have HSZ := Lib.hid hsz
  have HB := Lib.hid bb
  have HPB := Lib.hid hb
  have HPR := Lib.hid hR
  have HSM := Lib.hid hsm
  have HA := Lib.hid ha
  obtain ⟨t0, t1, t2⟩ := tk
  clear h bb hsz e1 hh hlen hcnt hnd hsm ha
  go_enter Tryz.func59, Tryz.ntmps59
  go_wp2_with fail
  (try rw [hX]); (try rw [hb]); (try rw [hR])
  refine HL.out.mono ?_
  rintro e w1 ⟨pv, kv, zv, rfl, r1, r2, r3, hb1⟩
  clear HL hX hb hR
  obtain ⟨P1, n1, q1, rfl⟩ := r1.shape
  obtain ⟨P2, n2, q2, rfl⟩ := r2.shape
  obtain ⟨P3, n3, q3, rfl⟩ := r3.shape
  obtain ⟨Y, q, hY, hq, e2, bY, sY⟩ : ∃ (Y : World) (q : Nat), w1.alloc (.cells #[.int .i64 0, .bool false, .bool false, .slice none 0 0, .slice none 0 0, .slice none 0 0, .int .i64 0] stT) = Y ∧ w1.heap.size = q ∧ Sev Y q 0 false false (.slice none 0 0) (.slice none 0 0) (.slice none 0 0) 0 ∧ Below w1.heap.size w1 Y ∧ Y.heap.size = q + 1 := ⟨_, _, rfl, rfl, Sev.new _ rfl _ _ _ _ _ _ _, below_new _ _, by simp⟩
  obtain ⟨x0, x1, x2, x3, x4, x5, x6⟩ := e2.cells
  obtain ⟨f0, f1, f2, f3, f4, f5, f6⟩ := e2.frees
  have hO := only_put7 Y q r nd.inn nd.tag (.slice P1 n1 q1) (.slice P2 n2 q2) (.slice P3 n3 q3) 0
  obtain ⟨Z, hZ⟩ : ∃ Z, put7 Y q r nd.inn nd.tag (.slice P1 n1 q1) (.slice P2 n2 q2) (.slice P3 n3 q3) 0 = Z := ⟨_, rfl⟩
  have e3 : Sev Z q r nd.inn nd.tag (.slice P1 n1 q1) (.slice P2 n2 q2) (.slice P3 n3 q3) 0 := by rw [← hZ]; exact e2.put
  rw [hZ] at hO
  have bZ : Below w1.heap.size Y Z := hO.below (fun b e => by omega) (by omega)
  have bWZ : Below w1.heap.size w1 Z := bY.trans bZ
  have HZ := Lib.hid bWZ
  have HE3 := Lib.hid e3
  have HQ : Hid (R < q) := by have := HSZ.out; have := hb1.size; show R < q; omega
  have HQ2 := Lib.hid hq
  have H1 := Lib.hid r1
  have H2 := Lib.hid r2
  have H3 := Lib.hid r3
  have HB1 := Lib.hid hb1
  have HER : Hid (Sev Z R 0 false false (.slice none 0 0) (.slice none 0 0) (.slice none 0 0) 0) := (HE1.out.below hb1).below bWZ
  have HBZ : Hid (Below w.heap.size w Z) := (HB.out.trans (hb1.mono HB.out.size)).trans (bWZ.mono (HB.out.trans (hb1.mono HB.out.size)).size)
  clear r1 r2 r3 bY bZ bWZ e2 e3 hO sY hb1 t0 t1 t2 g0 HE1
  go_upto_region 2 with fail
  (try rw [hY]); (try rw [hq]); (try rw [hZ])
  clear x0 x1 x2 x3 x4 x5 x6 f0 f1 f2 f3 f4 f5 f6 hY hq hZ
  obtain ⟨y0, y1, y2, y3, y4, y5, y6⟩ := HE3.out.cells
  cases hin : nd.inn with
  | false =>
    have HW0 : Hid (wyOf nd key = 0) := by show wyOf nd key = 0; unfold wyOf; rw [hin]; rfl
    rw [hin] at y1
    obtain ⟨z0, z1, z2, z3, z4, z5, z6⟩ := HER.out.cells
    obtain ⟨f0, f1, f2, f3, f4, f5, f6⟩ := HER.out.frees
    have hne : R ≠ q := by have := HQ.out; omega
    have hne' : q ≠ R := by have := HQ.out; omega
    have HF : Hid (Sev (put7 Z R r false nd.tag (.slice P1 n1 q1) (.slice P2 n2 q2) (.slice P3 n3 q3) 0) R r false nd.tag (.slice P1 n1 q1) (.slice P2 n2 q2) (.slice P3 n3 q3) 0) := HER.out.put
    have HU : Hid (∀ v, v = stv r false nd.tag (.slice P1 n1 q1) (.slice P2 n2 q2) (.slice P3 n3 q3) 0 → (∃ v', Ending.returned v = .returned v' ∧ LkU ⟨r, nd, wyOf nd key⟩ (fun b' => w.heap.size ≤ b' ∧ b' < (put7 Z R r false nd.tag (.slice P1 n1 q1) (.slice P2 n2 q2) (.slice P3 n3 q3) 0).heap.size) (put7 Z R r false nd.tag (.slice P1 n1 q1) (.slice P2 n2 q2) (.slice P3 n3 q3) 0) v' ∧ Below w.heap.size w (put7 Z R r false nd.tag (.slice P1 n1 q1) (.slice P2 n2 q2) (.slice P3 n3 q3) 0))) := by
      rintro v rfl
      have hE := look_end HBZ.out HB.out HSZ.out H1.out H2.out H3.out HB1.out HZ.out HPB.out HPR.out (only_put7 Z R r false nd.tag (.slice P1 n1 q1) (.slice P2 n2 q2) (.slice P3 n3 q3) 0)
      exact ⟨_, rfl, ⟨_, _, _, by rw [HW0.out, hin], hE.1⟩, hE.2⟩
    go_wp2
    ((try simp only [Exit.inBlock, Exit.then]); refine bodyPost_ret (results_sev rfl rfl HF.out) rfl ?_)
    exact HU.out _ rfl
  | true =>
    have HW0 : Hid (wyOf nd key = ((heldW (wayL nd.ks key) nd.zs.length : Nat) : Int)) := by show wyOf nd key = _; unfold wyOf; rw [if_pos hin]
    rw [hin] at y1
    have hn2 : n2 = nd.ks.length := H2.out.sl.len
    have hn3 : n3 = nd.zs.length := H3.out.sl.len
    have HWY := Lib.hid (inWay_walk P2 P3 n2 q2 n3 q3 nd.ks key Z (H2.out.sl.below HZ.out) (by have := HSM.out.2.1; omega) (by have := HSM.out.2.2; omega))
    have HN3 := Lib.hid hn3
    clear hn2 hn3
    go_wp2_with fail
    refine HWY.out.mono ?_
    rintro e w4 ⟨r0, rfl, hsp, b4⟩
    have hr0 : ((heldW r0 n3 : Nat) : Int) = wyOf nd key := by rw [HW0.out, spot_way HA.out hsp, HN3.out]
    rw [hr0]
    have HE4 := Lib.hid (HE3.out.below b4)
    have HR4 := Lib.hid (HER.out.below b4)
    have HB4 : Hid (Below w1.heap.size w1 w4) := HZ.out.trans (b4.mono HZ.out.size)
    have HBZ4 : Hid (Below w.heap.size w w4) := HBZ.out.trans (b4.mono HBZ.out.size)
    obtain ⟨v0, v1, v2, v3, v4, v5, v6⟩ := HE4.out.cells
    have v7 := HE4.out.free 6
    have hne : R ≠ q := by have := HQ.out; omega
    have hne' : q ≠ R := by have := HQ.out; omega
    rw [hin] at v1
    clear y0 y1 y2 y3 y4 y5 y6 b4 HWY hsp hr0 HZ
    generalize hwy : wyOf nd key = wy at *
    have HWQ := Lib.hid hwy
    clear hwy
    obtain ⟨U, hU⟩ : ∃ U, w4.setCell ⟨q, 6, none⟩ (.int .i64 wy) = U := ⟨_, rfl⟩
    have eU : Sev U q r nd.inn nd.tag (.slice P1 n1 q1) (.slice P2 n2 q2) (.slice P3 n3 q3) wy := by rw [← hU]; exact HE4.out.set6 wy
    have rU : Sev U R 0 false false (.slice none 0 0) (.slice none 0 0) (.slice none 0 0) 0 := by rw [← hU]; exact HR4.out.at_ (heap_setCell_other w4 ⟨q, 6, none⟩ R _ hne)
    have HBU : Hid (Below w1.heap.size w1 U) := by
      have := Sev.lt HE4.out
      show Below _ _ _
      rw [← hU]
      exact HB4.out.setCell (p := ⟨q, 6, none⟩) (by show w1.heap.size ≤ q; have := HQ2.out; omega) _
    have HBWU : Hid (Below w.heap.size w U) := (HB.out.trans (HB1.out.mono HB.out.size)).trans (HBU.out.mono (HB.out.trans (HB1.out.mono HB.out.size)).size)
    rw [hin] at eU
    obtain ⟨y0, y1, y2, y3, y4, y5, y6⟩ := eU.cells
    obtain ⟨z0, z1, z2, z3, z4, z5, z6⟩ := rU.cells
    obtain ⟨f0, f1, f2, f3, f4, f5, f6⟩ := rU.frees
    have HF : Hid (Sev (put7 U R r true nd.tag (.slice P1 n1 q1) (.slice P2 n2 q2) (.slice P3 n3 q3) wy) R r true nd.tag (.slice P1 n1 q1) (.slice P2 n2 q2) (.slice P3 n3 q3) wy) := rU.put
    have HUU : Hid (∀ v, v = stv r true nd.tag (.slice P1 n1 q1) (.slice P2 n2 q2) (.slice P3 n3 q3) wy → (∃ v', Ending.returned v = .returned v' ∧ LkU ⟨r, nd, wy⟩ (fun b' => w.heap.size ≤ b' ∧ b' < (put7 U R r true nd.tag (.slice P1 n1 q1) (.slice P2 n2 q2) (.slice P3 n3 q3) wy).heap.size) (put7 U R r true nd.tag (.slice P1 n1 q1) (.slice P2 n2 q2) (.slice P3 n3 q3) wy) v' ∧ Below w.heap.size w (put7 U R r true nd.tag (.slice P1 n1 q1) (.slice P2 n2 q2) (.slice P3 n3 q3) wy))) := by
      rintro v rfl
      have hE := look_end HBWU.out HB.out HSZ.out H1.out H2.out H3.out HB1.out HBU.out HPB.out HPR.out (only_put7 U R r true nd.tag (.slice P1 n1 q1) (.slice P2 n2 q2) (.slice P3 n3 q3) wy)
      exact ⟨_, rfl, ⟨_, _, _, by rw [hin], hE.1⟩, hE.2⟩
    clear eU rU
    go_upto_region 4 with fail
    (try rw [hU])
    clear v0 v1 v2 v3 v4 v5 v6 v7 hU
    go_wp2
    ((try simp only [Exit.inBlock, Exit.then]); refine bodyPost_ret (results_sev rfl rfl HF.out) rfl ?_)
    rw [HWQ.out]
    exact HUU.out _ rfl
end Go.Proofs.YtcegianjpifnbaaGreat
