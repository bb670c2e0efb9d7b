/-
  What llx's Loads comes to within work: nodes, one behind the other, up to the first that isn't Seen.
-/
import Derived.Test.YtcegianjpifnbaaGreatWk10
namespace Go.Proofs.YtcegianjpifnbaaGreat
open Go.ChangeShapes Go.WideShapes Go.ChangeAt Go.RowKit
set_option linter.unusedVariables false
set_option linter.unusedSimpArgs false
set_option maxRecDepth 20000

/-- A node as it was, as eight cells. -/
def SnR (x : Sn) (cs : List Value) (Y : Nat → Prop) (w : World) : Prop := ∃ pv kv zv wv, cs = [.int .i64 x.rf, .int .i64 x.inf, .bool x.nd.inn, .bool x.nd.tag, pv, kv, zv, wv] ∧ IsSl pv ∧ IsSl kv ∧ IsSl zv ∧ Row rfT 0 w wv x.ws ∧ ∀ b, wv.ownBlock = some b → Y b
theorem SnR.len {x : Sn} {cs : List Value} {Y : Nat → Prop} {w : World} (h : SnR x cs Y w) : cs.length = 8 := by obtain ⟨_, _, _, _, rfl, _⟩ := h; rfl
theorem SnR.keep {x : Sn} {cs : List Value} {Y Y' : Nat → Prop} {w w' : World} (h : SnR x cs Y w) (hb : ∀ b, Y b → Ty w b rfT → w'.heap[b]? = w.heap[b]?) (hY : ∀ b, Y b → Y' b) : SnR x cs Y' w' := by
  obtain ⟨pv, kv, zv, wv, e, h1, h2, h3, h4, h5⟩ := h
  exact ⟨pv, kv, zv, wv, e, h1, h2, h3, own_at h4 fun b e => hb b (h5 b e) (own_ty h4 e), fun b e => hY b (h5 b e)⟩
/-- Nodes as they were, in a slice, in blocks of Y. -/
structure SnL (l : List Sn) (Y : Nat → Prop) (w : World) (v : Value) : Prop where
  rows : ∃ cs : List (List Value), cs.length = l.length ∧ (∀ (i : Nat) (x : Sn) (c : List Value), l[i]? = some x → cs[i]? = some c → SnR x c Y w) ∧ w.ownsRow 0 snT 8 v l.length cs.flatten
  own : ∀ b, v.ownBlock = some b → Y b
theorem SnL.nil (Y : Nat → Prop) (w : World) : SnL [] Y w (.slice none 0 0) := ⟨⟨[], rfl, fun i x c h => by simp at h, World.ownsRow_nil _ _ _ _⟩, fun b e => by cases e⟩
theorem SnL.keep {l : List Sn} {Y Y' : Nat → Prop} {w w' : World} {v : Value} (h : SnL l Y w v) (hb : ∀ b, Y b → w'.heap[b]? = w.heap[b]?) (hY : ∀ b, Y b → Y' b) : SnL l Y' w' v := by
  obtain ⟨⟨cs, h1, h2, h3⟩, h4⟩ := h
  exact ⟨⟨cs, h1, fun i x c e1 e2 => (h2 i x c e1 e2).keep (fun b e _ => hb b e) hY, own_at h3 fun b e => hb b (h4 b e)⟩, fun b e => hY b (h4 b e)⟩
theorem SnL.shape {l : List Sn} {Y : Nat → Prop} {w : World} {v : Value} (h : SnL l Y w v) : ∃ A c, v = .slice A l.length c ∧ (l = [] ∨ ∃ g, A = some ⟨g, 0, none⟩) := by
  obtain ⟨⟨cs, h1, h2, h3⟩, h4⟩ := h
  rcases h3.2 with ⟨e, h0⟩ | ⟨g, cap, cur, e, _⟩
  · exact ⟨none, 0, by rw [h0]; exact e, .inl (List.eq_nil_of_length_eq_zero h0)⟩
  · exact ⟨_, _, e, .inr ⟨g, rfl⟩⟩
theorem sn_info : (Tryz.prog.info? 150).map (fun i => (i.zero, i.size, i.bytes)) = some (some (.agg #[.int .i64 0, .int .i64 0, .bool false, .bool false, .slice none 0 0, .slice none 0 0, .slice none 0 0, .slice none 0 0]), 8, 120) := by kernel_rfl
theorem flat_len {cs : List (List Value)} (h : ∀ c ∈ cs, c.length = 8) : cs.flatten.length = cs.length * 8 := by
  induction cs with
  | nil => rfl
  | cons c cs ih => rw [List.flatten_cons, List.length_append, h c (List.mem_cons_self ..), ih fun c hc => h c (List.mem_cons_of_mem _ hc), List.length_cons]; omega
theorem flat_at {cs : List (List Value)} (h : ∀ c ∈ cs, c.length = 8) {i k : Nat} {c : List Value} (hc : cs[i]? = some c) (hk : k < 8) : cs.flatten[i * 8 + k]? = c[k]? := by
  induction cs generalizing i with
  | nil => cases hc
  | cons c0 cs ih =>
    have h0 := h c0 (List.mem_cons_self ..)
    rw [List.flatten_cons]
    cases i with
    | zero =>
      injection hc with hc
      subst hc
      rw [Nat.zero_mul, Nat.zero_add, List.getElem?_append_left (by omega)]
    | succ i =>
      rw [List.getElem?_append_right (by omega), h0, show (i + 1) * 8 + k - 8 = i * 8 + k from by omega]
      exact ih (fun c hc => h c (List.mem_cons_of_mem _ hc)) hc
/-- A node more. -/
theorem SnL.push {l : List Sn} {x : Sn} {c : List Value} {Y : Nat → Prop} {w : World} {v : Value} {g : Nat} (h : SnL l Y w v) (hx : SnR x c Y w) (hg : w.heap[g]? = some (.cells c.toArray snT (0, 0))) (hn : l.length ≤ 1000) :
    ∃ A' c' Z, (Builtin.append_ #[146, 146] 146 #[v, .slice (some ⟨g, 0, none⟩) 1 1]).run Tryz.prog w = .ok (.slice A' (l.length + 1) c') Z ∧ SnL (l ++ [x]) (fun b => Y b ∨ w.heap.size ≤ b) Z (.slice A' (l.length + 1) c') ∧ w.grownBy Z v.ownBlock ∧ ∀ b, (Value.slice A' (l.length + 1) c').ownBlock = some b → v.ownBlock = some b ∨ w.heap.size ≤ b := by
  obtain ⟨⟨cs, h1, h2, h3⟩, h4⟩ := h
  obtain ⟨i0, hi0, hz0, hz1, hz2⟩ := info_parts sn_info
  have hcl := hx.len
  obtain ⟨pv, kv, zv, wv, hce, ⟨P1, n1, q1, rfl⟩, ⟨P2, n2, q2, rfl⟩, ⟨P3, n3, q3, rfl⟩, hw, hwo⟩ := hx
  obtain ⟨A4, n4, q4, rfl⟩ := hw.shape
  obtain ⟨v', Z, q1', q2', q3', q4'⟩ := run_push (w := w) 146 146 snT i0 _ 8 120 Tryz.underlying146 hi0 hz0 hz1 hz2 rfl (by omega) v l.length cs.flatten h3 ⟨g, 0, none⟩ 1 1 c (by rw [hcl])
    (by
      intro j u hj
      rw [add_lit0, cell_of_row w g _ _ _ (0, 0) hg]
      simpa using hj) (by rw [hce]; intro u hu; simp at hu; rcases hu with rfl | rfl | rfl | rfl | rfl | rfl | rfl | rfl <;> rfl) (by unfold maxLen; omega) (by omega)
  have hv : ∃ A' c', v' = .slice A' (l.length + 1) c' := by
    rcases q2'.2 with ⟨rfl, h0⟩ | ⟨g, cap, cur, rfl, _⟩
    · omega
    · exact ⟨_, _, rfl⟩
  obtain ⟨A', c', rfl⟩ := hv
  have keep : ∀ b, Ty w b rfT → Z.heap[b]? = w.heap[b]? := fun b h1 => q3'.block b (by obtain ⟨cs, hcs⟩ := h1; exact (Array.getElem?_eq_some_iff.1 hcs).1) fun e => absurd (h1.one (own_ty h3 e.symm)) (by decide)
  refine ⟨A', c', Z, q1', ⟨⟨cs ++ [c], by simp [h1], fun i y d e1 e2 => ?_, ?_⟩, fun b e => ?_⟩, q3', q4'⟩
  · by_cases hi : i < l.length
    · rw [List.getElem?_append_left hi] at e1
      rw [List.getElem?_append_left (by omega)] at e2
      exact (h2 i y d e1 e2).keep (fun b _ t => keep b t) fun b e => .inl e
    · have hi2 : i = l.length := by have := (List.getElem?_eq_some_iff.1 e1).1; simp at this; omega
      subst hi2
      rw [List.getElem?_append_right (Nat.le_refl _), Nat.sub_self] at e1
      rw [← h1, List.getElem?_append_right (Nat.le_refl _), Nat.sub_self] at e2
      injection e1 with e1
      injection e2 with e2
      subst e1 e2
      exact ⟨_, _, _, _, hce, ⟨_, _, _, rfl⟩, ⟨_, _, _, rfl⟩, ⟨_, _, _, rfl⟩, own_at hw fun b e => keep b (own_ty hw e), fun b e => .inl (hwo b e)⟩
  · rw [List.flatten_append, List.length_append, List.flatten_cons, List.flatten_nil, List.append_nil]; exact q2'
  · rcases q4' b e with e | e
    · exact .inl (h4 b e)
    · exact .inr e
theorem SnL.lens {l : List Sn} {Y : Nat → Prop} {w : World} {cs : List (List Value)} (h1 : cs.length = l.length) (h2 : ∀ (i : Nat) (x : Sn) (c : List Value), l[i]? = some x → cs[i]? = some c → SnR x c Y w) : ∀ c ∈ cs, c.length = 8 := by
  intro c hc
  obtain ⟨i, hi, rfl⟩ := List.mem_iff_getElem.1 hc
  exact (h2 i l[i] _ (List.getElem?_eq_getElem (by omega)) (List.getElem?_eq_getElem hi)).len
/-- Its cells. -/
theorem SnL.at_ {l : List Sn} {Y : Nat → Prop} {w : World} {A : Option Addr} {n c : Nat} {i : Nat} {x : Sn} (h : SnL l Y w (.slice A n c)) (hi : l[i]? = some x) : ∃ g pv kv zv wv, A = some ⟨g, 0, none⟩ ∧ n = l.length ∧ Y g ∧ IsSl pv ∧ IsSl kv ∧ IsSl zv ∧ Row rfT 0 w wv x.ws ∧ (∀ b, wv.ownBlock = some b → Y b) ∧
    w.cell? ⟨g, i * 8, none⟩ = some (.int .i64 x.rf) ∧ w.cell? ⟨g, i * 8 + 1, none⟩ = some (.int .i64 x.inf) ∧ w.cell? ⟨g, i * 8 + 2, none⟩ = some (.bool x.nd.inn) ∧ w.cell? ⟨g, i * 8 + 3, none⟩ = some (.bool x.nd.tag) ∧ w.cell? ⟨g, i * 8 + 4, none⟩ = some pv ∧ w.cell? ⟨g, i * 8 + 5, none⟩ = some kv ∧ w.cell? ⟨g, i * 8 + 6, none⟩ = some zv ∧ w.cell? ⟨g, i * 8 + 7, none⟩ = some wv := by
  obtain ⟨⟨cs, h1, h2, h3⟩, h4⟩ := h
  have hl := (List.getElem?_eq_some_iff.1 hi).1
  have hc : cs[i]? = some cs[i] := List.getElem?_eq_getElem (by omega)
  obtain ⟨pv, kv, zv, wv, e, k1, k2, k3, k4, k5⟩ := h2 i x _ hi hc
  have hlens := SnL.lens h1 h2
  have hr := h3
  rcases h3.2 with ⟨e0, h0⟩ | ⟨g, cap, cur, e0, _⟩
  · omega
  · injection e0 with e1 e2 e3
    subst e1 e2 e3
    have cell : ∀ k, k < 8 → ∀ u, cs[i][k]? = some u → w.cell? ⟨g, i * 8 + k, none⟩ = some u := fun k hk u hu => by
      rw [World.ownsRow.cellAt hr (i * 8 + k) (by omega), flat_at hlens hc hk]; exact hu
    rw [e] at cell
    exact ⟨g, pv, kv, zv, wv, rfl, rfl, h4 g rfl, k1, k2, k3, k4, k5, cell 0 (by omega) _ rfl, cell 1 (by omega) _ rfl, cell 2 (by omega) _ rfl, cell 3 (by omega) _ rfl, cell 4 (by omega) _ rfl, cell 5 (by omega) _ rfl, cell 6 (by omega) _ rfl, cell 7 (by omega) _ rfl⟩
/-! Loads. -/
def tLoads (acc : List Sn) : List (Int × Nd) → Tr (List Sn × Bool)
  | [] => .ret (acc, true)
  | x :: l => (tLoad x.1 x.2).bind fun y => if y.2 = 0 then tLoads (acc ++ [y.1]) l else .ret ([], false)
/-- What Loads answers. -/
def LsU (x : List Sn × Bool) (Y : Nat → Prop) (w : World) (v : Value) : Prop := ∃ u, v = .tuple #[u, .bool x.2] ∧ SnL x.1 Y w u
section
variable {nds : List (Int × Nd)} {M : Nat}
theorem kl_loads (acc : List Sn) (l : List (Int × Nd)) : kpL nds M (tLoads acc l) := by
  induction l generalizing acc with
  | nil => exact trivial
  | cons x l ih => exact kpL_bind (kl_load _ _) fun y => kl_if (ih _) trivial
theorem good_loads (acc : List Sn) (l : List (Int × Nd)) (s : Sig) : good (tLoads acc l) s := by
  induction l generalizing acc s with
  | nil => exact trivial
  | cons x l ih =>
    refine good_bind (good_load _ _ s) fun y s' _ => ?_
    split
    · exact ih _ _
    · exact trivial
theorem rets_loads (acc : List Sn) (l : List (Int × Nd)) : rets (fun x => x.1.length ≤ acc.length + l.length) (tLoads acc l) := by
  induction l generalizing acc with
  | nil => exact Nat.le_refl _
  | cons x l ih =>
    refine rets_bind (rets_any _) fun y _ => ?_
    split
    · have := ih (acc ++ [y.1])
      rw [List.length_append, List.length_singleton, show acc.length + 1 + l.length = acc.length + (l.length + 1) from by omega] at this
      exact this
    · exact Nat.zero_le _
end
/-- Where Loads is. -/
structure LDI (nds : List (Int × Nd)) (M : Nat) (d : Wd) (R : Nat → Prop) (w : World) (a me : Nat) (wk : Value) (p : Nat) (o : Out (List Sn × Bool)) (l : List Sn) (T : Value) (Y : Nat → Prop) (t : Tr (List Sn × Bool)) (wr : World) (c : Cur) (s : Sig) : Prop where
  bt : BT (Stt nds M) d R (fun b => (R b ∨ b = p) ∨ Y b) w a me wk p o t wr c s
  sl : SnL l Y wr T
  yn : ∀ b, Y b → p < b
  hp : w.heap.size = p
def LDE (nds : List (Int × Nd)) (M : Nat) (d : Wd) (R : Nat → Prop) (w : World) (a me : Nat) (wk : Value) (p : Nat) (o : Out (List Sn × Bool)) (l : List Sn) (T : Value) (t : Tr (List Sn × Bool)) (wr : World) (c : Cur) (s : Sig) : Prop := ∃ Y, LDI nds M d R w a me wk p o l T Y t wr c s
section
variable {nds : List (Int × Nd)} {M : Nat} {d : Wd} {R R' X X' : Nat → Prop} {w w' w0 wr w1 : World} {a st ph k me p q : Nat} {wk T : Value} {zs ws : List Int} {c : Cur} {s : Sig} {n r : Int} {nd : Nd} {t : Tr (List Sn × Bool)} {o : Out (List Sn × Bool)} {e : Ending} {l : List Sn} {Y : Nat → Prop}
theorem LDI.below (h : LDI nds M d R w a me wk p o l T Y t wr c s) (hb : Below wr.heap.size wr w') : LDI nds M d R w a me wk p o l T Y t w' c s :=
  ⟨h.bt.below hb, h.sl.keep (fun b e => hb.block b (h.bt.lv.lt b (.inr e))) fun b e => e, h.yn, h.hp⟩
/-- A node that was Seen, behind its Load: it is in the slice. -/
theorem LDI.push {x : Sn} {cs : List Value} {g : Nat} (h : LDI nds M d R w a me wk p o l T Y t wr c s) (hR : ∀ b, R b → b < w.heap.size) (hx : SnR x cs Y wr) (hg : wr.heap[g]? = some (.cells cs.toArray snT (0, 0))) (hn : l.length ≤ 1000) :
    ∃ A' c' Z, (Builtin.append_ #[146, 146] 146 #[T, .slice (some ⟨g, 0, none⟩) 1 1]).run Tryz.prog wr = .ok (.slice A' (l.length + 1) c') Z ∧ LDE nds M d R w a me wk p o (l ++ [x]) (.slice A' (l.length + 1) c') t Z c s := by
  obtain ⟨A', c', Z, q1, q2, q3, q4⟩ := h.sl.push hx hg hn
  have hb : ∀ b, b < wr.heap.size → ¬ Y b → Z.heap[b]? = wr.heap[b]? := fun b e1 e2 => q3.block b e1 fun e => e2 (h.sl.own b e.symm)
  have hpl : p < wr.heap.size := h.bt.lv.lt p (h.bt.sub p (.inr rfl))
  obtain ⟨⟨cs', h1, h2, h3⟩, h4⟩ := q2
  refine ⟨A', c', Z, q1, fun b => Y b ∨ (wr.heap.size ≤ b ∧ b < Z.heap.size), ?_, ⟨⟨cs', h1, fun i y d e1 e2 => ?_, h3⟩, fun b e => ?_⟩, fun b e => ?_, h.hp⟩
  · refine h.bt.kept q3 (fun b e => ?_) (fun b e => ?_) fun b e => .inl e
    · have hy := h.sl.own b e
      have := h.yn b hy
      have := h.hp
      exact ⟨.inr hy, fun f => by have := hR b f; omega, by omega⟩
    · rcases e with e | e | e
      · exact .inl (.inl e)
      · exact .inl (.inr e)
      · exact .inr e
  · obtain ⟨pv, kv, zv, wv, k0, k1, k2, k3, k4, k5⟩ := h2 i y d e1 e2
    exact ⟨pv, kv, zv, wv, k0, k1, k2, k3, k4, fun b e => (k5 b e).imp id fun e2 => ⟨e2, (World.ownsRow.lt k4 b e).2⟩⟩
  · exact (h4 b e).imp id fun e2 => ⟨e2, (World.ownsRow.lt h3 b e).2⟩
  · rcases e with e | e
    · exact h.yn b e
    · omega
theorem LDI.fin (h : LDI nds M d R w a me wk p o l T Y (.ret (l, true)) wr c s) (hp : ∀ b, R b → b < w.heap.size) : PostM d R w a wk LsU o (.returned (.tuple #[T, .bool true])) wr :=
  h.bt.postM (Y := Y) ⟨_, rfl, h.sl⟩ (fun b e => .inr e) fun b e => by have := h.yn b e; have := h.hp; omega
theorem LDI.no (h : LDI nds M d R w a me wk p o l T Y (.ret ([], false)) wr c s) : PostM d R w a wk LsU o (.returned (.tuple #[.slice none 0 0, .bool false])) wr :=
  h.bt.postM (Y := fun _ => False) ⟨_, rfl, SnL.nil _ _⟩ (fun b e => e.elim) fun b e => e.elim
end
end Go.Proofs.YtcegianjpifnbaaGreat
