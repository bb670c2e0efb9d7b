/-
  What llx's read comes to within work: a node, its ways one by one, and its record again.
-/
import Derived.Test.YtcegianjpifnbaaGreatLy10
import Derived.Test.YtcegianjpifnbaaGreatLp10
namespace Go.Proofs.YtcegianjpifnbaaGreat
open Go.ChangeShapes Go.WideShapes Go.ChangeAt Go.RowKit
set_option linter.unusedVariables false
set_option linter.unusedSimpArgs false
set_option maxRecDepth 20000

abbrev snT : TypeId := 150
abbrev rfT : TypeId := 53
abbrev snv (rf inf : Int) (x y : Bool) (pv kv zv wv : Value) : Value := .agg #[.int .i64 rf, .int .i64 inf, .bool x, .bool y, pv, kv, zv, wv]
/-- A variable of eight cells. -/
def Eig (w : World) (b : Nat) (rf inf : Int) (x y : Bool) (pv kv zv wv : Value) : Prop := w.heap[b]? = some (.cells #[.int .i64 rf, .int .i64 inf, .bool x, .bool y, pv, kv, zv, wv] snT (0, 0))
section
variable {w w' : World} {b : Nat} {rf inf : Int} {x y : Bool} {pv kv zv wv : Value}
theorem Eig.cells (h : Eig w b rf inf x y pv kv zv wv) : w.cell? ⟨b, 0, none⟩ = some (.int .i64 rf) ∧ w.cell? ⟨b, 1, none⟩ = some (.int .i64 inf) ∧ w.cell? ⟨b, 2, none⟩ = some (.bool x) ∧ w.cell? ⟨b, 3, none⟩ = some (.bool y) ∧ w.cell? ⟨b, 4, none⟩ = some pv ∧ w.cell? ⟨b, 5, none⟩ = some kv ∧ w.cell? ⟨b, 6, none⟩ = some zv ∧ w.cell? ⟨b, 7, none⟩ = some wv := by
  refine ⟨?_, ?_, ?_, ?_, ?_, ?_, ?_, ?_⟩ <;> (rw [cell_of_row w b _ _ _ (0, 0) h]; rfl)
theorem Eig.free (h : Eig w b rf inf x y pv kv zv wv) (j : Nat) : w.frozen? ⟨b, j, none⟩ = false := frozen_of_row w b j _ _ h
theorem Eig.frees (h : Eig w b rf inf x y pv kv zv wv) : w.frozen? ⟨b, 0, none⟩ = false ∧ w.frozen? ⟨b, 1, none⟩ = false ∧ w.frozen? ⟨b, 2, none⟩ = false ∧ w.frozen? ⟨b, 3, none⟩ = false ∧ w.frozen? ⟨b, 4, none⟩ = false ∧ w.frozen? ⟨b, 5, none⟩ = false ∧ w.frozen? ⟨b, 6, none⟩ = false ∧ w.frozen? ⟨b, 7, none⟩ = false := ⟨h.free 0, h.free 1, h.free 2, h.free 3, h.free 4, h.free 5, h.free 6, h.free 7⟩
theorem Eig.below (h : Eig w b rf inf x y pv kv zv wv) (hb : Below w.heap.size w w') : Eig w' b rf inf x y pv kv zv wv := (hb.block b (Array.getElem?_eq_some_iff.1 h).1).trans h
theorem Eig.at_ (h : Eig w b rf inf x y pv kv zv wv) (hb : w'.heap[b]? = w.heap[b]?) : Eig w' b rf inf x y pv kv zv wv := hb.trans h
theorem Eig.lt (h : Eig w b rf inf x y pv kv zv wv) : b < w.heap.size := (Array.getElem?_eq_some_iff.1 h).1
theorem Eig.set7 (h : Eig w b rf inf x y pv kv zv wv) (u : Value) : Eig (w.setCell ⟨b, 7, none⟩ u) b rf inf x y pv kv zv u := heap_setCell_same w b 7 _ _ u h
theorem Eig.new (w : World) {b : Nat} (hb : w.heap.size = b) (rf inf : Int) (x y : Bool) (pv kv zv wv : Value) : Eig (w.alloc (.cells #[.int .i64 rf, .int .i64 inf, .bool x, .bool y, pv, kv, zv, wv] snT)) b rf inf x y pv kv zv wv := by subst hb; exact heap_alloc_new w _
end
/-- The eight stores of a node into a variable. -/
abbrev put8 (w : World) (R : Nat) (rf inf : Int) (x y : Bool) (pv kv zv wv : Value) : World := (((((((w.setCell ⟨R, 0, none⟩ (.int .i64 rf)).setCell ⟨R, 1, none⟩ (.int .i64 inf)).setCell ⟨R, 2, none⟩ (.bool x)).setCell ⟨R, 3, none⟩ (.bool y)).setCell ⟨R, 4, none⟩ pv).setCell ⟨R, 5, none⟩ kv).setCell ⟨R, 6, none⟩ zv).setCell ⟨R, 7, none⟩ wv
section
variable {w w' : World} {R : Nat} {rf inf rf' inf' : Int} {x y x' y' : Bool} {pv kv zv wv pv' kv' zv' wv' z : Value}
theorem Eig.put (h : Eig w R rf' inf' x' y' pv' kv' zv' wv') : Eig (put8 w R rf inf x y pv kv zv wv) R rf inf x y pv kv zv wv := by
  unfold Eig at h
  unfold put8
  have h0 : (w.setCell ⟨R, 0, none⟩ (.int .i64 rf)).heap[R]? = some (.cells #[.int .i64 rf, .int .i64 inf', .bool x', .bool y', pv', kv', zv', wv'] snT (0, 0)) := heap_setCell_same w R 0 _ _ _ h
  generalize w.setCell ⟨R, 0, none⟩ (.int .i64 rf) = w0 at h0 ⊢
  have h1 : (w0.setCell ⟨R, 1, none⟩ (.int .i64 inf)).heap[R]? = some (.cells #[.int .i64 rf, .int .i64 inf, .bool x', .bool y', pv', kv', zv', wv'] snT (0, 0)) := heap_setCell_same w0 R 1 _ _ _ h0
  generalize w0.setCell ⟨R, 1, none⟩ (.int .i64 inf) = w1 at h1 ⊢
  have h2 : (w1.setCell ⟨R, 2, none⟩ (.bool x)).heap[R]? = some (.cells #[.int .i64 rf, .int .i64 inf, .bool x, .bool y', pv', kv', zv', wv'] snT (0, 0)) := heap_setCell_same w1 R 2 _ _ _ h1
  generalize w1.setCell ⟨R, 2, none⟩ (.bool x) = w2 at h2 ⊢
  have h3 : (w2.setCell ⟨R, 3, none⟩ (.bool y)).heap[R]? = some (.cells #[.int .i64 rf, .int .i64 inf, .bool x, .bool y, pv', kv', zv', wv'] snT (0, 0)) := heap_setCell_same w2 R 3 _ _ _ h2
  generalize w2.setCell ⟨R, 3, none⟩ (.bool y) = w3 at h3 ⊢
  have h4 : (w3.setCell ⟨R, 4, none⟩ (pv)).heap[R]? = some (.cells #[.int .i64 rf, .int .i64 inf, .bool x, .bool y, pv, kv', zv', wv'] snT (0, 0)) := heap_setCell_same w3 R 4 _ _ _ h3
  generalize w3.setCell ⟨R, 4, none⟩ (pv) = w4 at h4 ⊢
  have h5 : (w4.setCell ⟨R, 5, none⟩ (kv)).heap[R]? = some (.cells #[.int .i64 rf, .int .i64 inf, .bool x, .bool y, pv, kv, zv', wv'] snT (0, 0)) := heap_setCell_same w4 R 5 _ _ _ h4
  generalize w4.setCell ⟨R, 5, none⟩ (kv) = w5 at h5 ⊢
  have h6 : (w5.setCell ⟨R, 6, none⟩ (zv)).heap[R]? = some (.cells #[.int .i64 rf, .int .i64 inf, .bool x, .bool y, pv, kv, zv, wv'] snT (0, 0)) := heap_setCell_same w5 R 6 _ _ _ h5
  generalize w5.setCell ⟨R, 6, none⟩ (zv) = w6 at h6 ⊢
  have h7 : (w6.setCell ⟨R, 7, none⟩ (wv)).heap[R]? = some (.cells #[.int .i64 rf, .int .i64 inf, .bool x, .bool y, pv, kv, zv, wv] snT (0, 0)) := heap_setCell_same w6 R 7 _ _ _ h6
  exact h7
theorem only_put8 (w : World) (R : Nat) (rf inf : Int) (x y : Bool) (pv kv zv wv : Value) : Only (· = R) w (put8 w R rf inf x y pv kv zv wv) :=
  (((((((Only.set (· = R) w (p := ⟨R, 0, none⟩) rfl _).then (Only.set (· = R) _ (p := ⟨R, 1, none⟩) rfl _)).then (Only.set (· = R) _ (p := ⟨R, 2, none⟩) rfl _)).then (Only.set (· = R) _ (p := ⟨R, 3, none⟩) rfl _)).then (Only.set (· = R) _ (p := ⟨R, 4, none⟩) rfl _)).then (Only.set (· = R) _ (p := ⟨R, 5, none⟩) rfl _)).then (Only.set (· = R) _ (p := ⟨R, 6, none⟩) rfl _)).then (Only.set (· = R) _ (p := ⟨R, 7, none⟩) rfl _)
theorem load_eig (h : Eig w R rf inf x y pv kv zv wv) : (loadVar snT ⟨R, 0, none⟩).run Tryz.prog w = .ok (snv rf inf x y pv kv zv wv) w := by
  obtain ⟨e0, e1, e2, e3, e4, e5, e6, e7⟩ := h.cells
  simp [go_sem, e0, e1, e2, e3, e4, e5, e6, e7]
theorem results_eig2 {fn : Func} {t q : Tmp} {tmps : Array Value} (h : fn.results = #[.cell t snT, .tmp q]) (ht : tmps.getD t undef = .pointer (some ⟨R, 0, none⟩)) (hq : tmps.getD q undef = z)
    (h8 : Eig w R rf inf x y pv kv zv wv) : (results fn tmps).run Tryz.prog w = .ok (.tuple #[snv rf inf x y pv kv zv wv, z]) w := by
  have := load_eig h8
  have ht' : tmps[t]?.getD undef = .pointer (some ⟨R, 0, none⟩) := by simpa using ht
  have hq' : tmps[q]?.getD undef = z := by simpa using hq
  simp [results, h, ht', hq', asAddr, this]
end
/-- A slice's value. -/
def IsSl (v : Value) : Prop := ∃ A n c, v = .slice A n c
/-- A node as it was, as a value: its ways in blocks of Y. -/
def SnU (x : Sn) (Y : Nat → Prop) (w : World) (v : Value) : Prop := ∃ pv kv zv wv, v = snv x.rf x.inf x.nd.inn x.nd.tag pv kv zv wv ∧ IsSl pv ∧ IsSl kv ∧ IsSl zv ∧ Row rfT 0 w wv x.ws ∧ ∀ b, wv.ownBlock = some b → Y b
/-- What read answers. -/
def RdU (x : Sn × Bool) (Y : Nat → Prop) (w : World) (v : Value) : Prop := ∃ u, v = .tuple #[u, .bool x.2] ∧ SnU x.1 Y w u
/-- What Load answers. -/
def LdU (x : Sn × Int) (Y : Nat → Prop) (w : World) (v : Value) : Prop := ∃ u, v = .tuple #[u, .int .u8 x.2] ∧ SnU x.1 Y w u
theorem SnU.mono {x : Sn} {Y Y' : Nat → Prop} {w w' : World} {v : Value} (h : SnU x Y w v) (hb : ∀ b, Y b → w'.heap[b]? = w.heap[b]?) (hY : ∀ b, Y b → Y' b) : SnU x Y' w' v := by
  obtain ⟨pv, kv, zv, wv, e, h1, h2, h3, h4, h5⟩ := h
  exact ⟨pv, kv, zv, wv, e, h1, h2, h3, own_at h4 fun b e => hb b (h5 b e), fun b e => hY b (h5 b e)⟩
theorem SnU.nil (Y : Nat → Prop) (w : World) : SnU Sn.nil Y w (snv 0 0 false false (.slice none 0 0) (.slice none 0 0) (.slice none 0 0) (.slice none 0 0)) :=
  ⟨_, _, _, _, rfl, ⟨_, _, _, rfl⟩, ⟨_, _, _, rfl⟩, ⟨_, _, _, rfl⟩, Row.nil _ _ _, fun b e => by cases e⟩
/-- Where read is: its variables at u and q, its ways so far in T. -/
structure RM (nds : List (Int × Nd)) (M : Nat) (d : Wd) (R : Nat → Prop) (w : World) (a me : Nat) (wk : Value) (p q : Nat) (o : Out (Sn × Bool)) (r n : Int) (nd : Nd) (pv kv zv T : Value) (ws : List Int) (t : Tr (Sn × Bool)) (wr : World) (c : Cur) (s : Sig) : Prop where
  bt : BT (Stt nds M) d R (fun b => R b ∨ (p ≤ b ∧ b ≤ q) ∨ (q < b ∧ T.ownBlock = some b)) w a me wk p o t wr c s
  e1 : Eig wr (p + 1) 0 0 false false (.slice none 0 0) (.slice none 0 0) (.slice none 0 0) (.slice none 0 0)
  e2 : Eig wr q r n nd.inn nd.tag pv kv zv T
  row : Row rfT 0 wr T ws
  own : ∀ b, T.ownBlock = some b → q < b
  lt : p + 1 < q ∧ w.heap.size = p
section
variable {nds : List (Int × Nd)} {M : Nat} {d : Wd} {R R' X X' : Nat → Prop} {w w' w0 wr w1 : World} {a st ph k me p q : Nat} {wk : Value} {zs ws : List Int} {c : Cur} {s : Sig} {n r : Int} {nd : Nd} {pv kv zv T : Value} {t : Tr (Sn × Bool)} {o : Out (Sn × Bool)} {e : Ending}
theorem RM.below (h : RM nds M d R w a me wk p q o r n nd pv kv zv T ws t wr c s) (hb : Below wr.heap.size wr w') : RM nds M d R w a me wk p q o r n nd pv kv zv T ws t w' c s :=
  ⟨h.bt.below hb, h.e1.below hb, h.e2.below hb, own_at h.row fun b e => hb.block b (h.bt.lv.lt b (.inr (.inr ⟨h.own b e, e⟩))), h.own, h.lt⟩
theorem RM.rlt (h : RM nds M d R w a me wk p q o r n nd pv kv zv T ws t wr c s) : ∀ b, R b → b < p ∨ q < b ∧ False ∨ R b := fun b e => .inr (.inr e)
/-- A call behind which it goes on. -/
theorem RM.next {t' : Tr (Sn × Bool)} {c' : Cur} {s' : Sig} (h : RM nds M d R w a me wk p q o r n nd pv kv zv T ws t wr c s) (hB : BT (Stt nds M) d R (fun b => R b ∨ (p ≤ b ∧ b ≤ q) ∨ (q < b ∧ T.ownBlock = some b)) w a me wk p o t' w1 c' s') (hK : Kp (fun b => R b ∨ (p ≤ b ∧ b ≤ q) ∨ (q < b ∧ T.ownBlock = some b)) wr w1) : RM nds M d R w a me wk p q o r n nd pv kv zv T ws t' w1 c' s' :=
  ⟨hB, h.e1.at_ (hK.block _ (.inr (.inl ⟨by omega, by have := h.lt; omega⟩))), h.e2.at_ (hK.block _ (.inr (.inl ⟨by have := h.lt; omega, Nat.le_refl _⟩))), own_at h.row fun b e => hK.block b (.inr (.inr ⟨h.own b e, e⟩)), h.own, h.lt⟩
theorem RM.cells (h : RM nds M d R w a me wk p q o r n nd pv kv zv T ws t wr c s) : wr.cell? ⟨p, 0, none⟩ = some (ptr a) ∧ wr.cell? ⟨p, 1, none⟩ = some (ptr d.W) ∧ wr.cell? ⟨p, 2, none⟩ = some (.int .i64 (me : Int)) ∧ wr.cell? ⟨q, 7, none⟩ = some T := ⟨h.bt.tk.c0, h.bt.tk.c1, h.bt.tk.c2, h.e2.cells.2.2.2.2.2.2.2⟩
/-- A way more. -/
theorem RM.push {z : Int} {g : Nat} (h : RM nds M d R w a me wk p q o r n nd pv kv zv T ws t wr c s) (hR : ∀ b, R b → b < w.heap.size) (hg : wr.heap[g]? = some (.cells #[.int .i64 z] rfT (0, 0))) (hl : ws.length ≤ 1000) :
    ∃ A' m' c' Z, (Builtin.append_ #[25, 25] 25 #[T, .slice (some ⟨g, 0, none⟩) 1 1]).run Tryz.prog wr = .ok (.slice A' m' c') Z ∧ Z.cell? ⟨q, 7, none⟩ = some T ∧ Z.frozen? ⟨q, 7, none⟩ = false ∧ RM nds M d R w a me wk p q o r n nd pv kv zv (.slice A' m' c') (ws ++ [z]) t (Z.setCell ⟨q, 7, none⟩ (.slice A' m' c')) c s := by
  obtain ⟨A', m', c', Z, q1, q2, q3, q4⟩ := run_pushN rowR h.row (sl_one9 (z := z) (num_cell hg)) (by simp; omega) (by simp)
  have hlt := h.lt
  have hq : Z.heap[q]? = wr.heap[q]? := q3.block q h.e2.lt fun e => by have := h.own q e.symm; omega
  have hp1 : Z.heap[p + 1]? = wr.heap[p + 1]? := q3.block _ h.e1.lt fun e => by have := h.own _ e.symm; omega
  have own' : ∀ b, (Value.slice A' m' c').ownBlock = some b → q < b := fun b e => by
    rcases q4 b e with e | e
    · exact h.own b e
    · have := h.e2.lt; omega
  have hZ : ∀ b, (Value.slice A' m' c').ownBlock = some b → b < Z.heap.size := fun b e => (World.ownsRow.lt q2 b e).2
  have hB : BT (Stt nds M) d R (fun b => R b ∨ (p ≤ b ∧ b ≤ q) ∨ (q < b ∧ (Value.slice A' m' c').ownBlock = some b)) w a me wk p o t Z c s := by
    refine h.bt.kept q3 (fun b e => ⟨.inr (.inr ⟨h.own b e, e⟩), fun f => ?_, fun f => ?_⟩) (fun b e => ?_) (fun b e => ?_)
    · have := hR b f; have := h.own b e; omega
    · have := h.own b e; omega
    · rcases e with e | e | ⟨e1, e⟩
      · exact .inl (.inl e)
      · exact .inl (.inr (.inl e))
      · rcases q4 b e with e2 | e2
        · exact .inl (.inr (.inr ⟨e1, e2⟩))
        · exact .inr ⟨e2, hZ b e⟩
    · rcases e with e | e
      · exact .inl e
      · exact .inr (.inl (by omega))
  have e2 := h.e2.at_ hq
  refine ⟨A', m', c', Z, q1, e2.cells.2.2.2.2.2.2.2, e2.free 7, ?_⟩
  have hne : ∀ b, b ≠ q → (Z.setCell ⟨q, 7, none⟩ (.slice A' m' c')).heap[b]? = Z.heap[b]? := fun b e => heap_setCell_other Z ⟨q, 7, none⟩ b _ (fun e2 => e e2)
  refine ⟨hB.setR (.inr (.inl ⟨by omega, Nat.le_refl _⟩)) _ (fun f => by have := hR q f; omega) (by omega), (h.e1.at_ hp1).at_ (hne _ (by omega)), e2.set7 _, own_at q2 fun b e => hne b (by have := own' b e; omega), own', hlt⟩
end
end Go.Proofs.YtcegianjpifnbaaGreat
