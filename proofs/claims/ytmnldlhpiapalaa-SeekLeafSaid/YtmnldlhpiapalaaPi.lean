/-
  What becomes of a plan: its levels, two below a tagged one.
-/
import Derived.Test.YtmnldlhpiapalaaPh
namespace Go.Proofs.Ytmnldlhpiapalaa
open Go.ChangeShapes Go.WideShapes Go.ChangeAt Go.RowKit
set_option linter.unusedVariables false
set_option linter.unusedSimpArgs false
set_option maxRecDepth 20000

/-- With trees j and j + 1 below a tagged node. -/
def tagAt (ks : List Int) (kids : List Sh) (j : Nat) (z : Int) (x y : Sh) : Sh := .mk false false [] (ks.take j ++ ks.drop (j + 1)) (kids.take j ++ (.mk false true [] [z] [x, y] :: kids.drop (j + 2)))
theorem asc1_gap {ks : List Int} (ha : Asc1 ks) {a b : Nat} (hab : a ≤ b) : Asc1 (ks.take a ++ ks.drop b) := by
  refine List.Pairwise.sublist ?_ ha
  conv => rhs; rw [← List.take_append_drop a ks]
  refine List.Sublist.append (List.Sublist.refl _) ?_
  rw [show b = a + (b - a) from by omega, ← List.drop_drop]
  exact List.drop_sublist _ _
section
variable {ks : List Int} {kids : List Sh} {j : Nat} {z : Int} {x y : Sh}
theorem kids_two (hx : kids[j]? = some x) (hy : kids[j + 1]? = some y) : kids = kids.take j ++ (x :: y :: kids.drop (j + 2)) := by
  have h1 := kids_split hx
  have h2 := (List.getElem?_eq_some_iff.1 hy)
  obtain ⟨h3, h4⟩ := h2
  have h5 : kids.drop (j + 1) = y :: kids.drop (j + 2) := by rw [← h4]; exact (List.getElem_cons_drop h3).symm
  rw [h5] at h1
  exact h1
theorem wfL_append (l m : List Sh) : Sh.wfL (l ++ m) ↔ Sh.wfL l ∧ Sh.wfL m := by
  induction l with
  | nil => simp [Sh.wfL]
  | cons s l ih => simp only [List.cons_append, Sh.wfL, ih, and_assoc]
theorem smallL_append (l m : List Sh) : Sh.smallL (l ++ m) ↔ Sh.smallL l ∧ Sh.smallL m := by
  induction l with
  | nil => simp [Sh.smallL]
  | cons s l ih => simp only [List.cons_append, Sh.smallL, ih, and_assoc]
theorem deepL_append (l m : List Sh) : Sh.deepL (l ++ m) = max (Sh.deepL l) (Sh.deepL m) := by
  induction l with
  | nil => simp [Sh.deepL]
  | cons s l ih => simp only [List.cons_append, Sh.deepL, ih]; omega
theorem tag_wf (hk : ks.length + 1 = kids.length) (ha : Asc1 ks) (hw : Sh.wfL kids) (hx : kids[j]? = some x) (hy : kids[j + 1]? = some y) : (tagAt ks kids j z x y).wf := by
  have hs := kids_two hx hy
  have hj := (List.getElem?_eq_some_iff.1 hy).1
  rw [hs, wfL_append] at hw
  obtain ⟨h1, h2, h3, h4⟩ := hw
  refine ⟨.inr ⟨rfl, ?_⟩, asc1_gap ha (by omega), ?_⟩
  · simp only [List.length_append, List.length_take, List.length_drop, List.length_cons]; omega
  · rw [wfL_append]
    exact ⟨h1, ⟨.inr ⟨rfl, rfl⟩, List.pairwise_singleton _ _, h2, h3, trivial⟩, h4⟩
theorem tag_small (hk : ks.length ≤ 100) (hk2 : kids.length ≤ 100) (hw : Sh.smallL kids) (hx : kids[j]? = some x) (hy : kids[j + 1]? = some y) : (tagAt ks kids j z x y).small := by
  have hs := kids_two hx hy
  have hj := (List.getElem?_eq_some_iff.1 hy).1
  rw [hs, smallL_append] at hw
  obtain ⟨h1, h2, h3, h4⟩ := hw
  refine ⟨by simp, ?_, ?_, ?_⟩
  · simp only [List.length_append, List.length_take, List.length_drop]; omega
  · simp only [List.length_append, List.length_take, List.length_drop, List.length_cons]; omega
  · rw [smallL_append]
    exact ⟨h1, ⟨by simp, by simp, by simp, h2, h3, trivial⟩, h4⟩
theorem tag_all {lf tg : Bool} {ps : List (Int × Int)} (hx : kids[j]? = some x) (hy : kids[j + 1]? = some y) (hp : ps = []) : (tagAt ks kids j z x y).all = (Sh.mk lf tg ps ks kids).all := by
  have hs := kids_two hx hy
  subst hp
  unfold tagAt
  simp only [Sh.all, List.nil_append]
  conv => rhs; rw [hs]
  simp only [allL_append, Sh.allL, Sh.all, List.nil_append, List.append_nil, List.append_assoc]
theorem tag_ord {lf tg : Bool} {ps : List (Int × Int)} (hk : ks.length + 1 = kids.length) (h : (Sh.mk lf tg ps ks kids).ord) (hz : ks[j]? = some z) (hx : kids[j]? = some x) (hy : kids[j + 1]? = some y) : (tagAt ks kids j z x y).ord := by
  obtain ⟨-, -, h3, h4⟩ := h
  obtain ⟨k1, k2⟩ := sepAt_tag h3 hz hx hy hk
  have hs := kids_two hx hy
  rw [hs, ordL_append] at h4
  obtain ⟨h4, h5, h6, h7⟩ := h4
  refine ⟨fun _ => rfl, List.Pairwise.nil, k1, (ordL_append _ _).2 ⟨h4, ⟨fun _ => rfl, List.Pairwise.nil, k2, h5, h6, trivial⟩, h7⟩⟩
theorem tag_many {lf tg : Bool} {ps : List (Int × Int)} (hx : kids[j]? = some x) (hy : kids[j + 1]? = some y) : (tagAt ks kids j z x y).many = (Sh.mk lf tg ps ks kids).many + 1 := by
  have hs := kids_two hx hy
  unfold tagAt
  simp only [Sh.many]
  conv => rhs; rw [hs]
  simp only [manyL_append, Sh.manyL, Sh.many]
  omega
theorem tag_deep {lf tg : Bool} {ps : List (Int × Int)} (hx : kids[j]? = some x) (hy : kids[j + 1]? = some y) : (tagAt ks kids j z x y).deep ≤ (Sh.mk lf tg ps ks kids).deep + 1 := by
  have hs := kids_two hx hy
  unfold tagAt
  simp only [Sh.deep]
  conv => rhs; rw [hs]
  simp only [deepL_append, Sh.deepL, Sh.deep]
  omega
end
section
variable {g off n c k : Nat}
theorem add_plain (g off i : Nat) : (⟨g, off, none⟩ : Addr).add i = ⟨g, off + i, none⟩ := by
  unfold Addr.add
  split
  · rename_i h; subst h; rfl
  · rfl
theorem kids_upto (hk : k ≤ n) (hn : n ≤ c) (W : World) : (Instr.slice 91 (.slice (some ⟨g, off, none⟩) n c) none (some (.int .i64 (k : Int))) none).run Try.prog W = .ok (.slice (some ⟨g, off, none⟩) k c) W := by
  rw [run_slice_h (P := Try.prog) (t := 91) _ _ _ _ Try.underlying91 .i64 (k : Int) (by omega) (by omega)]
  simp [Result.andThen, sliced, go_sem, Addr.add]
theorem kids_from (hk : k ≤ n) (hn : n ≤ c) : ∃ o, (k < n → o = off + k * 5) ∧ ∀ W : World, (Instr.slice 91 (.slice (some ⟨g, off, none⟩) n c) (some (.int .i64 (k : Int))) none none).run Try.prog W = .ok (.slice (some ⟨g, o, none⟩) (n - k) (c - k)) W := by
  refine ⟨if c = k then off else off + k * 5, fun h => if_neg (by omega), fun W => ?_⟩
  rw [run_slice_l (P := Try.prog) (t := 91) _ _ _ _ Try.underlying91 .i64 (k : Int) (by omega) (by omega)]
  by_cases h : c = k
  · simp [Result.andThen, sliced, go_sem, add_plain, h]
  · have h2 : ¬ c - k = 0 := by omega
    simp [Result.andThen, sliced, go_sem, add_plain, h, h2]
theorem drop_at {Y : Nat → Prop} {w : World} {kids : List Sh} {o : Nat} (h : ShYC Y w kids g off) (hl : kids.length = n) (ho : k < n → o = off + k * 5) : ShYC Y w (kids.drop k) g o := by
  by_cases hk : k < n
  · rw [ho hk]; exact h.drop k
  · rw [List.drop_eq_nil_of_le (by omega)]; exact trivial
end
theorem one_new (w : World) (cs : Array Value) (t : TypeId) : ∃ (X : World) (p : Nat), w.alloc (.cells cs t) = X ∧ w.heap.size = p ∧ Below w.heap.size w X ∧ X.heap[p]? = some (.cells cs t (0, 0)) ∧ X.heap.size = p + 1 := ⟨_, _, rfl, rfl, below_new _ _, heap_alloc_new _ _, by simp⟩
theorem blk_below {w w' : World} {K : Nat} {o : Obj} (h : w.heap[K]? = some o) (hb : Below w.heap.size w w') : w'.heap[K]? = some o := (hb.block K (Array.getElem?_eq_some_iff.1 h).1).trans h
theorem load_shc {w : World} {R : Nat} {lf tg : Bool} {pv kv zv : Value} (h : Shc w R (.bool lf) (.bool tg) pv kv zv) : (loadVar shT ⟨R, 0, none⟩).run Try.prog w = .ok (shv lf tg pv kv zv) w := by
  obtain ⟨e0, e1, e2, e3, e4⟩ := h.cells
  simp [go_sem, e0, e1, e2, e3, e4]
theorem results_shc {w : World} {R : Nat} {lf tg : Bool} {pv kv zv : Value} {fn : Func} {t : Tmp} {tmps : Array Value} (h : fn.results = #[.cell t shT]) (ht : tmps.getD t undef = .pointer (some ⟨R, 0, none⟩))
    (h8 : Shc w R (.bool lf) (.bool tg) pv kv zv) : (results fn tmps).run Try.prog w = .ok (shv lf tg pv kv zv) w := by
  have := load_shc h8
  have ht' : tmps[t]?.getD undef = .pointer (some ⟨R, 0, none⟩) := by simpa using ht
  simp [results, h, ht', asAddr, this]
/-- The tagged one, in a variable at t. -/
def TagV (Y : Nat → Prop) (v : World) (t : Nat) (z : Int) (x y : Sh) (wx : World) : Prop := ∃ (Y' : Nat → Prop) (B : Option Addr) (m e : Nat) (C : Option Addr) (p c : Nat), Shc wx t (.bool false) (.bool true) (.slice none 0 0) (.slice B m e) (.slice C p c) ∧ ShY Y' wx (.mk false true [] [z] [x, y]) (shv false true (.slice none 0 0) (.slice B m e) (.slice C p c)) ∧ Below v.heap.size v wx ∧ v.heap.size ≤ t ∧ (∀ b, Y b → Y' b) ∧ (∀ b, Y' b → Y b ∨ v.heap.size ≤ b ∧ b < wx.heap.size) ∧ ¬ Y' t
theorem tag_end {Y : Nat → Prop} {v wx : World} {t K D : Nat} {z : Int} {x y : Sh} {lf tg lf' tg' : Bool} {A B C A' B' C' : Option Addr} {n k m e p c n' k' m' e' p' c' : Nat} {u0 u1 u2 u3 u4 : Value} (hb : Below v.heap.size v wx) (hY : ∀ b, Y b → b < v.heap.size) (ht : Shc wx t u0 u1 u2 u3 u4) (hK : wx.heap[K]? = some (.cells #[.int .i64 z] i6T (0, 0))) (hD : wx.heap[D]? = some (.cells #[.bool lf, .bool tg, .slice A n k, .slice B m e, .slice C p c, .bool lf', .bool tg', .slice A' n' k', .slice B' m' e', .slice C' p' c'] shT (0, 0))) (gK : v.heap.size ≤ K) (gD : v.heap.size ≤ D) (gt : v.heap.size ≤ t) (hx : ShY Y v x (shv lf tg (.slice A n k) (.slice B m e) (.slice C p c))) (hy : ShY Y v y (shv lf' tg' (.slice A' n' k') (.slice B' m' e') (.slice C' p' c'))) (nK : t ≠ K) (nD : t ≠ D) :
    TagV Y v t z x y (put5 wx t (.bool false) (.bool true) (.slice none 0 0) (.slice (some ⟨K, 0, none⟩) 1 1) (.slice (some ⟨D, 0, none⟩) 2 2)) := by
  have ho := only_put5 wx t (.bool false) (.bool true) (.slice none 0 0) (.slice (some ⟨K, 0, none⟩) 1 1) (.slice (some ⟨D, 0, none⟩) 2 2)
  have h1 := ht.put (x := .bool false) (y := .bool true) (pv := .slice none 0 0) (kv := .slice (some ⟨K, 0, none⟩) 1 1) (zv := .slice (some ⟨D, 0, none⟩) 2 2)
  have hn : ∀ b, b ≠ t → (put5 wx t (.bool false) (.bool true) (.slice none 0 0) (.slice (some ⟨K, 0, none⟩) 1 1) (.slice (some ⟨D, 0, none⟩) 2 2)).heap[b]? = wx.heap[b]? := fun b hb => put5_block wx t _ _ _ _ _ hb
  have hsz := ho.size
  have hbl := hb.trans (ho.below (fun b f => by rw [f]; exact gt) hb.size)
  generalize put5 wx t (.bool false) (.bool true) (.slice none 0 0) (.slice (some ⟨K, 0, none⟩) 1 1) (.slice (some ⟨D, 0, none⟩) 2 2) = wy at ho h1 hn hsz hbl ⊢
  have hK' := (hn K (Ne.symm nK)).trans hK
  have hD' := (hn D (Ne.symm nD)).trans hD
  have lK := (Array.getElem?_eq_some_iff.1 hK').1
  have lD := (Array.getElem?_eq_some_iff.1 hD').1
  have hk : ∀ (s : Sh) (u : Value), ShY Y v s u → ShY (fun b => Y b ∨ b = K ∨ b = D) wy s u := fun s u h => ShY.keep (fun b f => hbl.block b (hY b f)) (fun b f => .inl f) s u h
  have hc : ∀ (j : Nat) (u : Value), (#[.bool lf, .bool tg, .slice A n k, .slice B m e, .slice C p c, .bool lf', .bool tg', .slice A' n' k', .slice B' m' e', .slice C' p' c'] : Array Value)[j]? = some u → wy.cell? ⟨D, j, none⟩ = some u := fun j u h => (cell_of_row _ _ _ _ _ (0, 0) hD').trans h
  refine ⟨fun b => Y b ∨ b = K ∨ b = D, _, 1, 1, _, 2, 2, h1, ⟨none, 0, 0, _, 1, 1, _, 2, 2, rfl, Lp.nil _, (fun _ f => by cases f), ⟨rfl, Nat.le_refl _, (fun f => by cases f), .inr ⟨K, 0, rfl, fun i u hu => ?_⟩⟩, (fun ad f => by injection f with f; subst f; exact .inr (.inl rfl)), rfl, Nat.le_refl _, .inr ⟨D, 0, rfl, .inr (.inr rfl), ⟨⟨lf, tg, A, n, k, B, m, e, C, p, c, hc 0 _ rfl, hc 1 _ rfl, hc 2 _ rfl, hc 3 _ rfl, hc 4 _ rfl, hk _ _ hx⟩, ⟨lf', tg', A', n', k', B', m', e', C', p', c', hc 5 _ rfl, hc 6 _ rfl, hc 7 _ rfl, hc 8 _ rfl, hc 9 _ rfl, hk _ _ hy⟩, trivial⟩⟩⟩, hbl, gt, fun b f => .inl f, fun b f => ?_, fun f => ?_⟩
  · rw [cell_of_row _ _ _ _ _ (0, 0) hK', Nat.zero_add]
    match i, hu with
    | 0, hu => simp at hu; subst hu; rfl
  · rcases f with f | f | f
    · exact .inl f
    · exact .inr ⟨by omega, by omega⟩
    · exact .inr ⟨by omega, by omega⟩
  · rcases f with f | f | f
    · have := hY t f; omega
    · exact nK f
    · exact nD f
theorem row_ne {w : World} {base u : Nat} {v : Value} {zs : List Int} {u0 u1 u2 u3 u4 : Value} (h : Row i6T base w v zs) (hu : Shc w u u0 u1 u2 u3 u4) : ∀ b, v.ownBlock = some b → b ≠ u := by
  intro b hb e
  subst e
  have h1 := own_ty h hb
  have h2 : Ty w b shT := ⟨_, hu⟩
  exact absurd (h1.one h2) (by decide)
/-- Another row's append lets a variable of trees be. -/
theorem shc_push {w w' : World} {base u : Nat} {v : Value} {zs : List Int} {u0 u1 u2 u3 u4 : Value} (hu : Shc w u u0 u1 u2 u3 u4) (h : Row i6T base w v zs) (hg : w.grownBy w' v.ownBlock) : Shc w' u u0 u1 u2 u3 u4 :=
  hu.at_ (hg.block u (Array.getElem?_eq_some_iff.1 hu).1 fun e => row_ne h hu u e.symm rfl)
/-- The node above, its ways not yet there. -/
def OutV (v : World) (u : Nat) (l : List Int) (wx : World) : Prop := ∃ (B : Option Addr) (m e : Nat), Shc wx u (.bool false) (.bool false) (.slice none 0 0) (.slice B m e) (.slice none 0 0) ∧ Row i6T v.heap.size wx (.slice B m e) l ∧ Below v.heap.size v wx ∧ v.heap.size ≤ u ∧ (∀ b, (Value.slice B m e).ownBlock = some b → b ≠ u)
theorem out_end {v wx : World} {u : Nat} {l : List Int} {B : Option Addr} {m e : Nat} {u0 u1 u2 u3 u4 : Value} (hb : Below v.heap.size v wx) (hu : Shc wx u u0 u1 u2 u3 u4) (hr : Row i6T v.heap.size wx (.slice B m e) l) (gu : v.heap.size ≤ u) (hn : ∀ b, (Value.slice B m e).ownBlock = some b → b ≠ u) :
    OutV v u l (put5 wx u (.bool false) (.bool false) (.slice none 0 0) (.slice B m e) (.slice none 0 0)) := by
  have ho := only_put5 wx u (.bool false) (.bool false) (.slice none 0 0) (.slice B m e) (.slice none 0 0)
  exact ⟨B, m, e, hu.put, own_at hr fun b f => put5_block wx u _ _ _ _ _ (hn b f), hb.trans (ho.below (fun b f => by rw [f]; exact gu) hb.size), gu, hn⟩
end Go.Proofs.Ytmnldlhpiapalaa
namespace Go.Proofs.Ytmnldlhpiapalaa
open Go.ChangeShapes Go.WideShapes Go.ChangeAt Go.RowKit
set_option linter.unusedVariables false
set_option linter.unusedSimpArgs false
set_option maxRecDepth 20000

/-- A row of trees side by side, and the keys at which they begin. -/
structure RowS (row : List Sh) (fs : List Int) : Prop where
  len : fs.length = row.length
  asc : Asc1 fs
  wf : Sh.wfL row
  small : Sh.smallL row
  most : row.length ≤ 50
  many : 2 * Sh.manyL row + 3 * (row.length * (row.length - 1)) ≤ 7450
  deep : Sh.deepL row + 3 * row.length ≤ 151
/-- Keys in their places, along a row. -/
structure OrdR (row : List Sh) (fs : List Int) : Prop where
  ord : Sh.ordL row
  sep : sepAt 0 fs row
  pairs : (Sh.allL row).length ≤ 50
theorem GoodS.row {s : Sh} {fs : List Int} (h : RowS [s] fs) (ho : OrdR [s] fs) : GoodS s := by
  have h1 := h.many
  have h2 := h.deep
  have h3 := ho.pairs
  simp only [Sh.manyL, Sh.deepL, List.length_singleton] at h1 h2
  exact ⟨h.wf.1, h.small.1, by omega, by omega, ho.ord.1, by simpa [Sh.allL] using h3⟩
/-- Keys in their places, along leaves; what is left of the list. -/
structure LeafO (row : List Sh) (fs : List Int) (ls : List (Int × Int)) : Prop where
  ord : Sh.ordL row
  sep : sepAt 0 fs row
  lt : ∀ q ∈ Sh.allL row, ∀ p ∈ ls, q.1 < p.1
  pairs : (Sh.allL row).length + ls.length ≤ 50
theorem LeafO.nil {ls : List (Int × Int)} (h : ls.length ≤ 50) : LeafO [] [] ls := ⟨trivial, sepAt_nil _ _, fun q hq => (by cases hq), by simpa [Sh.allL] using h⟩
theorem LeafO.row {row : List Sh} {fs : List Int} {ls : List (Int × Int)} (h : LeafO row fs ls) : OrdR row fs := ⟨h.ord, h.sep, by have := h.pairs; omega⟩
theorem LeafO.snoc {row : List Sh} {fs : List Int} {ls : List (Int × Int)} {k n : Nat} {q : Int × Int} (h : LeafO row fs ls) (hl : fs.length = row.length) (ha : Asc ls) (hf : ∀ x ∈ fs, ∀ p ∈ ls, x < p.1) (hq : ls[0]? = some q) (hk : k ≤ n) : LeafO (row ++ [.mk true false (ls.take k) [] []]) (fs ++ [q.1]) (ls.drop n) := by
  have hall : (Sh.mk true false (ls.take k) [] []).all = ls.take k := List.append_nil _
  have hqle : ∀ p ∈ ls, q.1 ≤ p.1 := by
    cases ls with
    | nil => cases hq
    | cons a l =>
      injection hq with hq; subst hq
      intro p hp
      rcases List.mem_cons.1 hp with rfl | hp
      · exact Int.le_refl _
      · exact Int.le_of_lt ((List.pairwise_cons.1 ha).1 p hp)
  refine ⟨(ordL_append _ _).2 ⟨h.ord, ⟨fun f => (by cases f), List.Pairwise.sublist (List.take_sublist _ _) ha, sepAt_nil _ _, trivial⟩, trivial⟩, ?_, ?_, ?_⟩
  · intro j m z t hz ht p hp
    rw [List.getElem?_append] at hz ht
    split at hz
    · rename_i h1
      split at ht
      · exact h.sep j m z t hz ht p hp
      · rename_i h2
        have hm : m = row.length ∧ t = .mk true false (ls.take k) [] [] := by
          cases e : m - row.length with
          | zero => rw [e] at ht; injection ht with ht; exact ⟨by omega, ht.symm⟩
          | succ d => rw [e] at ht; simp at ht
        obtain ⟨rfl, rfl⟩ := hm
        rw [hall] at hp
        exact ⟨fun e => by omega, fun _ => Int.le_of_lt (hf z (List.mem_of_getElem? hz) p (List.mem_of_mem_take hp))⟩
    · rename_i h1
      have hj : j = fs.length ∧ z = q.1 := by
        cases e : j - fs.length with
        | zero => rw [e] at hz; injection hz with hz; exact ⟨by omega, hz.symm⟩
        | succ d => rw [e] at hz; simp at hz
      obtain ⟨rfl, rfl⟩ := hj
      split at ht
      · rename_i h2
        exact ⟨fun _ => h.lt p (mem_allL ht hp) q (List.mem_of_getElem? hq), fun e => by omega⟩
      · rename_i h2
        have hm : m = row.length ∧ t = .mk true false (ls.take k) [] [] := by
          cases e : m - row.length with
          | zero => rw [e] at ht; injection ht with ht; exact ⟨by omega, ht.symm⟩
          | succ d => rw [e] at ht; simp at ht
        obtain ⟨rfl, rfl⟩ := hm
        rw [hall] at hp
        exact ⟨fun e => by omega, fun _ => hqle p (List.mem_of_mem_take hp)⟩
  · intro p hp r hr
    rw [allL_append] at hp
    rcases List.mem_append.1 hp with hp | hp
    · exact h.lt p hp r (List.mem_of_mem_drop hr)
    · have hp : p ∈ (Sh.mk true false (ls.take k) [] []).all ++ [] := hp
      rw [List.append_nil, hall] at hp
      have hsp : (ls.take n ++ ls.drop n).Pairwise fun a b => a.1 < b.1 := by rw [List.take_append_drop]; exact ha
      have hp2 : p ∈ ls.take n := by
        rw [show ls.take k = (ls.take n).take k from by rw [List.take_take, Nat.min_eq_left hk]] at hp
        exact List.mem_of_mem_take hp
      exact (List.pairwise_append.1 hsp).2.2 p hp2 r hr
  · have := h.pairs
    rw [allL_append, show Sh.allL [Sh.mk true false (ls.take k) [] []] = (Sh.mk true false (ls.take k) [] []).all ++ [] from rfl, hall]
    simp
    omega
/-- Leaves side by side. -/
structure LeafS (row : List Sh) (fs : List Int) (m : Nat) : Prop where
  len : fs.length = row.length
  asc : Asc1 fs
  wf : Sh.wfL row
  small : Sh.smallL row
  many : Sh.manyL row = row.length
  deep : Sh.deepL row ≤ 1
  most : row.length + m ≤ 50
theorem LeafS.nil {m : Nat} (h : m ≤ 50) : LeafS [] [] m := ⟨rfl, List.Pairwise.nil, trivial, trivial, rfl, Nat.zero_le _, by simpa using h⟩
theorem LeafS.snoc {row : List Sh} {fs : List Int} {m n : Nat} {z : Int} {ps : List (Int × Int)} (h : LeafS row fs m) (hp : ps.length ≤ 50) (hz : ∀ x ∈ fs, x < z) (hn : 1 ≤ n ∧ n ≤ m) : LeafS (row ++ [.mk true false ps [] []]) (fs ++ [z]) (m - n) := by
  have h1 := h.most
  have h2 := h.deep
  have h3 := h.many
  refine ⟨by simp [h.len], List.pairwise_append.2 ⟨h.asc, List.pairwise_singleton _ _, fun x hx y hy => ?_⟩, (wfL_append _ _).2 ⟨h.wf, ⟨.inl ⟨rfl, rfl, rfl⟩, List.Pairwise.nil, trivial⟩, trivial⟩, (smallL_append _ _).2 ⟨h.small, ⟨by omega, by simp, by simp, trivial⟩, trivial⟩, ?_, ?_, ?_⟩
  · simp at hy; subst hy; exact hz x hx
  · simp [manyL_append, Sh.manyL, Sh.many, h3]
  · simp only [deepL_append, Sh.deepL, Sh.deep]; omega
  · simp; omega
theorem LeafS.row {row : List Sh} {fs : List Int} {m : Nat} (h : LeafS row fs m) : RowS row fs := by
  have h1 := h.most
  have h2 := h.deep
  have h4 : row.length * (row.length - 1) ≤ 50 * 49 := Nat.mul_le_mul (by omega) (by omega)
  exact ⟨h.len, h.asc, h.wf, h.small, by omega, by rw [h.many]; omega, by omega⟩
/-- The level above, as far as it has come. -/
structure UpS (row : List Sh) (fs : List Int) (i : Nat) (up : List Sh) (keys : List Int) : Prop where
  le : i ≤ row.length
  len : keys.length = up.length
  sub : keys.Sublist (fs.take i)
  wf : Sh.wfL up
  small : Sh.smallL up
  many : Sh.manyL up ≤ Sh.manyL (row.take i) + 3 * up.length
  deep : Sh.deepL up ≤ Sh.deepL row + 3
  cnt : i = 0 ∧ up = [] ∨ 1 ≤ up.length ∧ up.length + 1 ≤ i
theorem UpS.nil (row : List Sh) (fs : List Int) : UpS row fs 0 [] [] := ⟨Nat.zero_le _, rfl, List.nil_sublist _, trivial, trivial, Nat.zero_le _, Nat.zero_le _, .inl ⟨rfl, rfl⟩⟩
theorem wfL_take {l : List Sh} (h : Sh.wfL l) (k : Nat) : Sh.wfL (l.take k) ∧ Sh.wfL (l.drop k) := by
  rw [← wfL_append, List.take_append_drop]; exact h
theorem smallL_take {l : List Sh} (h : Sh.smallL l) (k : Nat) : Sh.smallL (l.take k) ∧ Sh.smallL (l.drop k) := by
  rw [← smallL_append, List.take_append_drop]; exact h
theorem deepL_take (l : List Sh) (k : Nat) : Sh.deepL (l.take k) ≤ Sh.deepL l ∧ Sh.deepL (l.drop k) ≤ Sh.deepL l := by
  have h : Sh.deepL l = max (Sh.deepL (l.take k)) (Sh.deepL (l.drop k)) := by rw [← deepL_append, List.take_append_drop]
  omega
/-- The node of one group. -/
def grp (row : List Sh) (fs : List Int) (i n : Nat) : Sh := .mk false false [] ((fs.take (i + n)).drop (i + 1)) ((row.take (i + n)).drop i)
section
variable {row up : List Sh} {fs keys : List Int} {i n : Nat} {s : Sh} {z : Int}
theorem grp_good (h : RowS row fs) (hn : 1 ≤ n) (hi : i + n ≤ row.length) : (grp row fs i n).wf ∧ (grp row fs i n).small ∧ (grp row fs i n).deep ≤ Sh.deepL row := by
  have h1 := h.len
  have h2 := h.most
  refine ⟨⟨.inr ⟨rfl, by simp; omega⟩, ?_, (wfL_take (wfL_take h.wf _).1 _).2⟩, ⟨by simp, by simp; omega, by simp; omega, (smallL_take (smallL_take h.small _).1 _).2⟩, ?_⟩
  · exact List.Pairwise.sublist ((List.drop_sublist _ _).trans (List.take_sublist _ _)) h.asc
  · show Sh.deepL _ ≤ _
    exact Nat.le_trans (deepL_take _ _).2 (deepL_take _ _).1
theorem UpS.snoc (h : UpS row fs i up keys) (hr : RowS row fs) (hn : 1 ≤ n) (h0 : i = 0 → 2 ≤ n) (hi : i + n ≤ row.length) (hz : fs[i]? = some z) (hw : s.wf) (hs : s.small) (hm : s.many ≤ (grp row fs i n).many + 2) (hd : s.deep ≤ (grp row fs i n).deep + 2) : UpS row fs (i + n) (up ++ [s]) (keys ++ [z]) := by
  have g := (grp_good hr hn hi).2.2
  have h1 := h.many
  have h2 := h.deep
  have h3 := h.cnt
  have hL := hr.len
  refine ⟨hi, by simp [h.len], ?_, (wfL_append _ _).2 ⟨h.wf, hw, trivial⟩, (smallL_append _ _).2 ⟨h.small, hs, trivial⟩, ?_, ?_, ?_⟩
  · have e1 : (fs.take (i + 1)).Sublist (fs.take (i + n)) := by
      rw [show fs.take (i + 1) = (fs.take (i + n)).take (i + 1) from by rw [List.take_take]; congr 1; omega]
      exact List.take_sublist _ _
    refine List.Sublist.trans ?_ e1
    rw [List.take_add_one, hz]
    exact h.sub.append (List.Sublist.refl _)
  · have e2 : Sh.manyL (row.take (i + n)) = Sh.manyL (row.take i) + Sh.manyL ((row.take (i + n)).drop i) := by
      rw [← manyL_append]
      congr 1
      conv => lhs; rw [← List.take_append_drop i (row.take (i + n))]
      rw [List.take_take, Nat.min_eq_left (by omega)]
    have e3 : (grp row fs i n).many = Sh.manyL ((row.take (i + n)).drop i) + 1 := rfl
    simp only [manyL_append, Sh.manyL, List.length_append, List.length_singleton]
    omega
  · simp only [deepL_append, Sh.deepL]
    omega
  · right
    simp only [List.length_append, List.length_singleton]
    rcases h3 with ⟨f1, f2⟩ | ⟨f1, f2⟩
    · have := h0 f1; subst f2; simp; omega
    · omega
/-- The level above is whole. -/
theorem UpS.done (h : UpS row fs row.length up keys) (hr : RowS row fs) (h2 : 2 ≤ row.length) : RowS up keys ∧ up.length < row.length ∧ 1 ≤ up.length := by
  have g1 := h.many
  have g2 := h.deep
  have g3 : up.length + 1 ≤ row.length := by
    rcases h.cnt with ⟨f, -⟩ | ⟨-, f⟩
    · omega
    · exact f
  have g4 := hr.many
  have g5 := hr.deep
  have g6 := hr.most
  rw [List.take_length] at g1
  have hu : 1 ≤ up.length := by
    rcases h.cnt with ⟨f, -⟩ | ⟨f, -⟩
    · omega
    · exact f
  have g7 : up.length * (up.length - 1) + 2 * up.length ≤ row.length * (row.length - 1) := by
    obtain ⟨k, hk⟩ : ∃ k, row.length = up.length + 1 + k := ⟨row.length - (up.length + 1), by omega⟩
    have e1 : up.length * (up.length - 1) + 2 * up.length ≤ (up.length + 1) * up.length := by
      obtain ⟨j, hj⟩ : ∃ j, up.length = j + 1 := ⟨up.length - 1, by omega⟩
      rw [hj]
      simp only [Nat.add_sub_cancel, Nat.add_mul, Nat.mul_add]
      omega
    exact Nat.le_trans e1 (Nat.mul_le_mul (by omega) (by omega))
  exact ⟨⟨h.len, List.Pairwise.sublist (h.sub.trans (List.take_sublist _ _)) hr.asc, h.wf, h.small, by omega, by omega, by omega⟩, by omega, hu⟩
theorem grp_mem {q : Int × Int} (h : q ∈ (grp row fs i n).all) : ∃ (m : Nat) (t : Sh), m < n ∧ row[i + m]? = some t ∧ q ∈ t.all := by
  have h : q ∈ Sh.allL ((row.take (i + n)).drop i) := h
  obtain ⟨m, t, h1, h2⟩ := allL_mem h
  rw [List.getElem?_drop, List.getElem?_take] at h1
  split at h1
  · exact ⟨m, t, by omega, h1, h2⟩
  · cases h1
theorem grp_ord (h : OrdR row fs) : (grp row fs i n).ord := ⟨fun _ => rfl, List.Pairwise.nil, sepAt_group h.sep i n, (ordL_take (ordL_take h.ord _).1 _).2⟩
/-- Keys in their places, along the level above as far as it has come. -/
structure UpO (row : List Sh) (fs : List Int) (i : Nat) (up : List Sh) (keys : List Int) : Prop where
  ord : Sh.ordL up
  sep : sepAt 0 keys up
  lt : ∀ q ∈ Sh.allL up, ∀ j z, i ≤ j → fs[j]? = some z → q.1 < z
  all : Sh.allL up = Sh.allL (row.take i)
theorem UpO.nil (row : List Sh) (fs : List Int) : UpO row fs 0 [] [] := ⟨trivial, sepAt_nil _ _, fun q hq => (by cases hq), rfl⟩
theorem UpO.snoc (h : UpO row fs i up keys) (hu : UpS row fs i up keys) (hr : OrdR row fs) (hz : fs[i]? = some z) (hs : s.ord) (ha : s.all = (grp row fs i n).all) : UpO row fs (i + n) (up ++ [s]) (keys ++ [z]) := by
  have hlen := hu.len
  have hlast : ∀ (m : Nat) (t : Sh), [s][m - up.length]? = some t → ¬ m < up.length → m = up.length ∧ t = s := by
    intro m t ht h1
    cases e : m - up.length with
    | zero => rw [e] at ht; injection ht with ht; exact ⟨by omega, ht.symm⟩
    | succ d => rw [e] at ht; simp at ht
  refine ⟨(ordL_append _ _).2 ⟨h.ord, hs, trivial⟩, ?_, ?_, ?_⟩
  · intro j m z' t hz' ht p hp
    rw [List.getElem?_append] at hz' ht
    split at hz'
    · rename_i h1
      split at ht
      · exact h.sep j m z' t hz' ht p hp
      · rename_i h2
        obtain ⟨rfl, rfl⟩ := hlast m t ht h2
        rw [ha] at hp
        obtain ⟨m', t', g1, g2, g3⟩ := grp_mem hp
        refine ⟨fun e => by omega, fun _ => ?_⟩
        have hmem := hu.sub.subset (List.mem_of_getElem? hz')
        obtain ⟨j0, hj0, e0⟩ := List.mem_iff_getElem.1 hmem
        rw [List.length_take] at hj0
        rw [List.getElem_take] at e0
        exact (hr.sep j0 (i + m') z' t' (by rw [← e0]; exact List.getElem?_eq_getElem (by omega)) g2 p g3).2 (by omega)
    · rename_i h1
      have hj : j = keys.length ∧ z' = z := by
        cases e : j - keys.length with
        | zero => rw [e] at hz'; injection hz' with hz'; exact ⟨by omega, hz'.symm⟩
        | succ d => rw [e] at hz'; simp at hz'
      obtain ⟨rfl, rfl⟩ := hj
      split at ht
      · rename_i h2
        exact ⟨fun _ => h.lt p (mem_allL ht hp) i z' (Nat.le_refl _) hz, fun e => by omega⟩
      · rename_i h2
        obtain ⟨rfl, rfl⟩ := hlast m t ht h2
        rw [ha] at hp
        obtain ⟨m', t', g1, g2, g3⟩ := grp_mem hp
        exact ⟨fun e => by omega, fun _ => (hr.sep i (i + m') z' t' hz g2 p g3).2 (by omega)⟩
  · intro p hp j z' hj hz'
    rw [allL_append] at hp
    rcases List.mem_append.1 hp with hp | hp
    · exact h.lt p hp j z' (by omega) hz'
    · have hp : p ∈ s.all ++ [] := hp
      rw [List.append_nil, ha] at hp
      obtain ⟨m', t', g1, g2, g3⟩ := grp_mem hp
      exact (hr.sep j (i + m') z' t' hz' g2 p g3).1 (by omega)
  · rw [allL_append, h.all, show Sh.allL [s] = s.all ++ [] from rfl, List.append_nil, ha]
    show Sh.allL (row.take i) ++ Sh.allL ((row.take (i + n)).drop i) = _
    rw [← allL_append]
    congr 1
    conv => rhs; rw [← List.take_append_drop i (row.take (i + n))]
    rw [List.take_take, Nat.min_eq_left (by omega)]
theorem UpO.done (h : UpO row fs row.length up keys) (hr : OrdR row fs) : OrdR up keys := ⟨h.ord, h.sep, by rw [h.all, List.take_length]; exact hr.pairs⟩

end
end Go.Proofs.Ytmnldlhpiapalaa
namespace Go.Proofs.Ytmnldlhpiapalaa
open Go.ChangeShapes Go.WideShapes Go.ChangeAt Go.RowKit
set_option linter.unusedVariables false
set_option linter.unusedSimpArgs false
set_option maxRecDepth 20000

/-- The node above, in a variable at o, with the keys l and so far the ways kk. -/
structure KidV (w0 : World) (Y : Nat → Prop) (o : Nat) (l : List Int) (kk : List Sh) (C : Option Addr) (p c : Nat) (wx : World) : Prop where
  var : ∃ B m e, Shc wx o (.bool false) (.bool false) (.slice none 0 0) (.slice B m e) (.slice C p c) ∧ Row i6T w0.heap.size wx (.slice B m e) l
  rows : ShR Y kk wx (.slice C p c)
  bel : Below w0.heap.size w0 wx
  ge : w0.heap.size ≤ o
  own : ∀ b, (Value.slice C p c).ownBlock = some b → w0.heap.size ≤ b ∧ b ≠ o
  low : ∀ b, Y b → b < w0.heap.size
section
variable {w0 w w' : World} {Y : Nat → Prop} {o p c : Nat} {l : List Int} {kk l2 : List Sh} {C : Option Addr}
theorem KidV.below (h : KidV w0 Y o l kk C p c w) (hb : Below w.heap.size w w') : KidV w0 Y o l kk C p c w' := by
  obtain ⟨B, m, e, h1, h2⟩ := h.var
  have hs := h.bel.size
  exact ⟨⟨B, m, e, h1.below hb, own_at h2 fun b f => hb.block b (World.ownsRow.lt h2 b f).2⟩, h.rows.keep (fun b f => hb.block b (Nat.lt_of_lt_of_le (h.low b f) hs)) (fun b f => hb.block b (h.rows.lt f)) fun b f => f, h.bel.trans (hb.mono hs), h.ge, h.own, h.low⟩
theorem KidV.begin (h : OutV w0 o l w) (hY : ∀ b, Y b → b < w0.heap.size) : KidV w0 Y o l [] none 0 0 w := by
  obtain ⟨B, m, e, h1, h2, h3, h4, h5⟩ := h
  exact ⟨⟨B, m, e, h1, h2⟩, ShR.nil Y w, h3, h4, (fun b f => by cases f), hY⟩
theorem KidV.cell (h : KidV w0 Y o l kk C p c w) : w.cell? ⟨o, 4, none⟩ = some (.slice C p c) ∧ w.frozen? ⟨o, 4, none⟩ = false := by
  obtain ⟨B, m, e, h1, h2⟩ := h.var
  exact ⟨h1.cells.2.2.2.2, h1.frees.2.2.2.2⟩
/-- Some ways more. -/
theorem KidV.push {g off m2 k2 : Nat} (h : KidV w0 Y o l kk C p c w) (h2 : ShYC Y w l2 g off) (hm : m2 = l2.length) (hn : kk.length + m2 ≤ 10000) :
    ∃ C' p' c' Z, (Builtin.append_ #[91, 91] 91 #[.slice C p c, .slice (some ⟨g, off, none⟩) m2 k2]).run Try.prog w = .ok (.slice C' p' c') Z ∧ Below w0.heap.size w0 Z ∧ Z.cell? ⟨o, 4, none⟩ = some (.slice C p c) ∧ Z.frozen? ⟨o, 4, none⟩ = false ∧ KidV w0 Y o l (kk ++ l2) C' p' c' (Z.setCell ⟨o, 4, none⟩ (.slice C' p' c')) := by
  have hs := h.bel.size
  obtain ⟨v', Z, q1, q2, q3, q4, C', c', rfl⟩ := h.rows.push h2 hm hn (fun b f g => by have := (h.own b f).1; have := h.low b g; omega) fun b f => Nat.lt_of_lt_of_le (h.low b f) hs
  obtain ⟨B, m, e, h1, h3⟩ := h.var
  have lo := (Array.getElem?_eq_some_iff.1 h1).1
  have hZo : Z.heap[o]? = w.heap[o]? := q3.block o lo fun f => (h.own o f.symm).2 rfl
  have h1' := h1.at_ hZo
  have hb0 : Below w0.heap.size w Z := (Below.refl _ w).grown q3 hs fun k hk => (h.own k hk).1
  have h3' : Row i6T w0.heap.size Z (.slice B m e) l := own_at h3 fun b f => q3.block b (World.ownsRow.lt h3 b f).2 fun f2 => by
    obtain ⟨cs, -, -, r⟩ := h.rows
    have t1 := own_ty r f2.symm
    have t2 := own_ty h3 f
    exact absurd (t1.one t2) (by decide)
  have hcells := h1'.cells.2.2.2.2
  have hset : (Z.setCell ⟨o, 4, none⟩ (.slice C' (kk.length + m2) c')).heap[o]? = some (.cells #[.bool false, .bool false, .slice none 0 0, .slice B m e, .slice C' (kk.length + m2) c'] shT (0, 0)) := heap_setCell_same Z o 4 _ _ _ h1'
  have hoth : ∀ b, b ≠ o → (Z.setCell ⟨o, 4, none⟩ (.slice C' (kk.length + m2) c')).heap[b]? = Z.heap[b]? := fun b hb => heap_setCell_other Z _ b _ hb
  have hsz : (Z.setCell ⟨o, 4, none⟩ (.slice C' (kk.length + m2) c')).heap.size = Z.heap.size := by simp
  have hnew : ∀ b, (Value.slice C' (kk.length + m2) c').ownBlock = some b → w0.heap.size ≤ b ∧ b ≠ o := fun b f => by
    rcases q4 b f with f | f
    · exact h.own b f
    · exact ⟨by omega, by omega⟩
  have ho := Only.set (· = o) Z (p := ⟨o, 4, none⟩) rfl (.slice C' (kk.length + m2) c')
  refine ⟨C', kk.length + m2, c', Z, q1, h.bel.trans hb0, hcells, h1'.frees.2.2.2.2, ⟨⟨B, m, e, hset, own_at h3' fun b f => hoth b (row_ne h3' h1' b f)⟩, q2.keep (fun b f => hoth b fun f2 => by have := h.low b f; have := h.ge; omega) (fun b f => hoth b (hnew b f).2) fun b f => f, ?_, h.ge, hnew, h.low⟩⟩
  exact (h.bel.trans hb0).trans (ho.below (fun b f => by rw [f]; exact h.ge) (h.bel.trans hb0).size)
/-- All its ways are there. -/
theorem KidV.fin {Y' : Nat → Prop} (h : KidV w0 Y o l kk C p c w) (hk : kk ≠ []) (hY : ∀ b, Y b → Y' b) (hn : ∀ b, w0.heap.size ≤ b → b < w.heap.size → Y' b) : ∃ B m e, Shc w o (.bool false) (.bool false) (.slice none 0 0) (.slice B m e) (.slice C p c) ∧ ShY Y' w (.mk false false [] l kk) (shv false false (.slice none 0 0) (.slice B m e) (.slice C p c)) := by
  obtain ⟨B, m, e, h1, h2⟩ := h.var
  obtain ⟨k1, k2, k3⟩ := h.rows.kids
  refine ⟨B, m, e, h1, ⟨none, 0, 0, B, m, e, C, p, c, rfl, Lp.nil _, (fun _ f => by cases f), h2.sl, fun ad f => ?_, k1, k2, ?_⟩⟩
  · have := Sl.row h2 ad f
    exact hn _ this.1 this.2
  · rcases k3 with f | ⟨g, rfl, hc⟩
    · exact absurd f hk
    · refine .inr ⟨g, 0, rfl, hn g (h.own g rfl).1 (h.rows.lt rfl), ShYC.keep (fun b f => rfl) hY _ _ _ rfl hc⟩
end
end Go.Proofs.Ytmnldlhpiapalaa
namespace Go.Proofs.Ytmnldlhpiapalaa
open Go.ChangeShapes Go.WideShapes Go.ChangeAt Go.RowKit
set_option linter.unusedVariables false
set_option linter.unusedSimpArgs false
set_option maxRecDepth 20000

structure RW (L : Nat) (Y : Nat → Prop) (row : List Sh) (fs : List Int) (v5 v6 : Value) (w : World) : Prop where
  rows : ShR Y row w v5
  firsts : Row i6T 0 w v6 fs
  own5 : ∀ b, v5.ownBlock = some b → L ≤ b ∧ ¬ Y b
  own6 : ∀ b, v6.ownBlock = some b → L ≤ b ∧ ¬ Y b
  rng : ∀ b, Y b → L ≤ b ∧ b < w.heap.size
section
variable {L : Nat} {Y Y2 : Nat → Prop} {row : List Sh} {fs : List Int} {v5 v6 : Value} {w w' : World}
theorem RW.nil (h : ∀ b, Y b → L ≤ b ∧ b < w.heap.size) : RW L Y [] [] (.slice none 0 0) (.slice none 0 0) w := ⟨ShR.nil Y w, Row.nil _ _ _, (fun b f => by cases f), (fun b f => by cases f), h⟩
theorem RW.apart (h : RW L Y row fs v5 v6 w) : ∀ b, v5.ownBlock = some b → v6.ownBlock ≠ some b := fun b f f2 => by
  obtain ⟨cs, -, -, r⟩ := h.rows
  exact absurd ((own_ty r f).one (own_ty h.firsts f2)) (by decide)
theorem RW.below (h : RW L Y row fs v5 v6 w) (hb : Below w.heap.size w w') : RW L Y row fs v5 v6 w' :=
  ⟨h.rows.keep (fun b f => hb.block b (h.rng b f).2) (fun b f => hb.block b (h.rows.lt f)) fun b f => f, own_at h.firsts fun b f => hb.block b (World.ownsRow.lt h.firsts b f).2, h.own5, h.own6, fun b f => ⟨(h.rng b f).1, Nat.lt_of_lt_of_le (h.rng b f).2 hb.size⟩⟩
/-- More blocks that trees may lie in. -/
theorem RW.wide (h : RW L Y row fs v5 v6 w) (hs : ∀ b, Y b → Y2 b) (hr : ∀ b, Y2 b → L ≤ b ∧ b < w.heap.size) (h5 : ∀ b, v5.ownBlock = some b → ¬ Y2 b) (h6 : ∀ b, v6.ownBlock = some b → ¬ Y2 b) : RW L Y2 row fs v5 v6 w :=
  ⟨h.rows.keep (fun b f => rfl) (fun b f => rfl) hs, h.firsts, fun b f => ⟨(h.own5 b f).1, h5 b f⟩, fun b f => ⟨(h.own6 b f).1, h6 b f⟩, hr⟩
/-- One tree more. -/
theorem RW.push5 {g : Nat} {s : Sh} (h : RW L Y row fs v5 v6 w) (h2 : ShYC Y w [s] g 0) (hn : row.length ≤ 5000) (hL : L ≤ w.heap.size) :
    ∃ C' p' c' Z, (Builtin.append_ #[91, 91] 91 #[v5, .slice (some ⟨g, 0, none⟩) 1 1]).run Try.prog w = .ok (.slice C' p' c') Z ∧ RW L Y (row ++ [s]) fs (.slice C' p' c') v6 Z ∧ Below L w Z ∧ (∀ b, Y b → Z.heap[b]? = w.heap[b]?) ∧ w.grownBy Z v5.ownBlock ∧ ∀ b, (Value.slice C' p' c').ownBlock = some b → v5.ownBlock = some b ∨ w.heap.size ≤ b := by
  obtain ⟨v', Z, q1, q2, q3, q4, C', c', rfl⟩ := h.rows.push (m := 1) (k := 1) h2 rfl (by omega) (fun b f => (h.own5 b f).2) fun b f => (h.rng b f).2
  have hb : Below L w Z := (Below.refl _ w).grown q3 hL fun k hk => (h.own5 k hk).1
  exact ⟨C', _, c', Z, q1, ⟨q2, own_at h.firsts fun b f => q3.block b (World.ownsRow.lt h.firsts b f).2 fun f2 => h.apart b f2.symm f, fun b f => by
    rcases q4 b f with f | f
    · exact h.own5 b f
    · exact ⟨by omega, fun f2 => by have := (h.rng b f2).2; omega⟩, h.own6, fun b f => ⟨(h.rng b f).1, Nat.lt_of_lt_of_le (h.rng b f).2 hb.size⟩⟩, hb, (fun b f => q3.block b (h.rng b f).2 fun f2 => (h.own5 b f2.symm).2 f), q3, q4⟩
/-- One key more. -/
theorem RW.push6 {A : Option Addr} {z : Int} (h : RW L Y row fs v5 v6 w) (h2 : Sl w A 1 1 [z]) (hA : A ≠ none) (hn : fs.length ≤ 5000) (hL : L ≤ w.heap.size) :
    ∃ C' p' c' Z, (Builtin.append_ #[29, 29] 29 #[v6, .slice A 1 1]).run Try.prog w = .ok (.slice C' p' c') Z ∧ RW L Y row (fs ++ [z]) v5 (.slice C' p' c') Z ∧ Below L w Z ∧ (∀ b, Y b → Z.heap[b]? = w.heap[b]?) ∧ w.grownBy Z v6.ownBlock ∧ ∀ b, (Value.slice C' p' c').ownBlock = some b → v6.ownBlock = some b ∨ w.heap.size ≤ b := by
  obtain ⟨A', m, c', Z, q1, q2, q3, q4⟩ := run_pushS h.firsts h2 (by simp; omega) hA
  have hb : Below L w Z := (Below.refl _ w).grown q3 hL fun k hk => (h.own6 k hk).1
  exact ⟨A', m, c', Z, q1, ⟨h.rows.keep (fun b f => q3.block b (h.rng b f).2 fun f2 => (h.own6 b f2.symm).2 f) (fun b f => q3.block b (h.rows.lt f) fun f2 => h.apart b f f2.symm) fun b f => f, q2, h.own5, fun b f => by
    rcases q4 b f with f | f
    · exact h.own6 b f
    · exact ⟨by omega, fun f2 => by have := (h.rng b f2).2; omega⟩, fun b f => ⟨(h.rng b f).1, Nat.lt_of_lt_of_le (h.rng b f).2 hb.size⟩⟩, hb, (fun b f => q3.block b (h.rng b f).2 fun f2 => (h.own6 b f2.symm).2 f), q3, q4⟩
end
/-- A row, and the row above it as it comes. -/
structure UW (L : Nat) (Y : Nat → Prop) (row : List Sh) (fs : List Int) (v5 v6 : Value) (up : List Sh) (keys : List Int) (v12 v13 : Value) (w : World) : Prop where
  a : RW L Y row fs v5 v6 w
  b : RW L Y up keys v12 v13 w
  n5 : ∀ b, v12.ownBlock = some b → v5.ownBlock ≠ some b
  n6 : ∀ b, v13.ownBlock = some b → v6.ownBlock ≠ some b
section
variable {L : Nat} {Y Y2 : Nat → Prop} {row up : List Sh} {fs keys : List Int} {v5 v6 v12 v13 : Value} {w w' : World}
theorem RW.two (h : RW L Y row fs v5 v6 w) : UW L Y row fs v5 v6 [] [] (.slice none 0 0) (.slice none 0 0) w := ⟨h, RW.nil h.rng, (fun b f => by cases f), fun b f => by cases f⟩
theorem UW.below (h : UW L Y row fs v5 v6 up keys v12 v13 w) (hb : Below w.heap.size w w') : UW L Y row fs v5 v6 up keys v12 v13 w' := ⟨h.a.below hb, h.b.below hb, h.n5, h.n6⟩
theorem UW.wide (h : UW L Y row fs v5 v6 up keys v12 v13 w) (hs : ∀ b, Y b → Y2 b) (hr : ∀ b, Y2 b → Y b ∨ w'.heap.size ≤ b) (hb : Below w'.heap.size w' w) (hw : UW L Y row fs v5 v6 up keys v12 v13 w') (hl : ∀ b, Y2 b → L ≤ b ∧ b < w.heap.size) : UW L Y2 row fs v5 v6 up keys v12 v13 w := by
  have key : ∀ b, (v5.ownBlock = some b ∨ v6.ownBlock = some b ∨ v12.ownBlock = some b ∨ v13.ownBlock = some b) → b < w'.heap.size := by
    rintro b (f | f | f | f)
    · exact hw.a.rows.lt f
    · exact (World.ownsRow.lt hw.a.firsts b f).2
    · exact hw.b.rows.lt f
    · exact (World.ownsRow.lt hw.b.firsts b f).2
  have no : ∀ b, (v5.ownBlock = some b ∨ v6.ownBlock = some b ∨ v12.ownBlock = some b ∨ v13.ownBlock = some b) → ¬ Y b → ¬ Y2 b := fun b f g f2 => by
    rcases hr b f2 with f3 | f3
    · exact g f3
    · have := key b f; omega
  exact ⟨h.a.wide hs hl (fun b f => no b (.inl f) (h.a.own5 b f).2) fun b f => no b (.inr (.inl f)) (h.a.own6 b f).2, h.b.wide hs hl (fun b f => no b (.inr (.inr (.inl f))) (h.b.own5 b f).2) fun b f => no b (.inr (.inr (.inr f))) (h.b.own6 b f).2, h.n5, h.n6⟩
theorem UW.push5 {g : Nat} {s : Sh} (h : UW L Y row fs v5 v6 up keys v12 v13 w) (h2 : ShYC Y w [s] g 0) (hn : up.length ≤ 5000) (hL : L ≤ w.heap.size) :
    ∃ C' p' c' Z, (Builtin.append_ #[91, 91] 91 #[v12, .slice (some ⟨g, 0, none⟩) 1 1]).run Try.prog w = .ok (.slice C' p' c') Z ∧ UW L Y row fs v5 v6 (up ++ [s]) keys (.slice C' p' c') v13 Z ∧ Below L w Z ∧ w.grownBy Z v12.ownBlock := by
  obtain ⟨C', p', c', Z, q1, q2, q3, q4, q5, q6⟩ := h.b.push5 h2 hn hL
  refine ⟨C', p', c', Z, q1, ⟨⟨h.a.rows.keep q4 (fun b f => q5.block b (h.a.rows.lt f) fun f2 => h.n5 b f2.symm f) fun b f => f, own_at h.a.firsts fun b f => q5.block b (World.ownsRow.lt h.a.firsts b f).2 fun f2 => ?_, h.a.own5, h.a.own6, q2.rng⟩, q2, fun b f f2 => ?_, h.n6⟩, q3, q5⟩
  · obtain ⟨cs, -, -, r⟩ := h.b.rows
    exact absurd ((own_ty r f2.symm).one (own_ty h.a.firsts f)) (by decide)
  · rcases q6 b f with f3 | f3
    · exact h.n5 b f3 f2
    · have := h.a.rows.lt f2; omega
theorem UW.push6 {A : Option Addr} {z : Int} (h : UW L Y row fs v5 v6 up keys v12 v13 w) (h2 : Sl w A 1 1 [z]) (hA : A ≠ none) (hn : keys.length ≤ 5000) (hL : L ≤ w.heap.size) :
    ∃ C' p' c' Z, (Builtin.append_ #[29, 29] 29 #[v13, .slice A 1 1]).run Try.prog w = .ok (.slice C' p' c') Z ∧ UW L Y row fs v5 v6 up (keys ++ [z]) v12 (.slice C' p' c') Z ∧ Below L w Z := by
  obtain ⟨C', p', c', Z, q1, q2, q3, q4, q5, q6⟩ := h.b.push6 h2 hA hn hL
  refine ⟨C', p', c', Z, q1, ⟨⟨h.a.rows.keep q4 (fun b f => q5.block b (h.a.rows.lt f) fun f2 => ?_) fun b f => f, own_at h.a.firsts fun b f => q5.block b (World.ownsRow.lt h.a.firsts b f).2 fun f2 => h.n6 b f2.symm f, h.a.own5, h.a.own6, q2.rng⟩, q2, h.n5, fun b f f2 => ?_⟩, q3⟩
  · obtain ⟨cs, -, -, r⟩ := h.a.rows
    exact absurd ((own_ty r f).one (own_ty h.b.firsts f2.symm)) (by decide)
  · rcases q6 b f with f3 | f3
    · exact h.n6 b f3 f2
    · have := (World.ownsRow.lt h.a.firsts b f2).2; omega
end
end Go.Proofs.Ytmnldlhpiapalaa
namespace Go.Proofs.Ytmnldlhpiapalaa
open Go.ChangeShapes Go.WideShapes Go.ChangeAt Go.RowKit
set_option linter.unusedVariables false
set_option linter.unusedSimpArgs false
set_option maxRecDepth 20000

section
variable {w : World} {A : Option Addr} {n c k l h : Nat} {ls : List (Int × Int)} {zs : List Int}
theorem lp_upto (hl : Lp w A n c ls) (hk : k ≤ n) : Lp w A k c (ls.take k) ∧ ∀ W : World, (Instr.slice 69 (.slice A n c) none (some (.int .i64 (k : Int))) none).run Try.prog W = .ok (.slice A k c) W := by
  have := hl.cap
  refine ⟨⟨hl.lf.upto hk, by omega, hl.none_⟩, fun W => ?_⟩
  rw [run_slice_h (P := Try.prog) (t := 69) _ _ _ _ Try.underlying69 .i64 (k : Int) (by omega) (by omega)]
  have e : A.map (fun x => x.add 0) = A := by cases A <;> simp [Addr.add]
  simp [Result.andThen, sliced, go_sem, e]
theorem lp_from (hl : Lp w A n c ls) (hk : k ≤ n) : ∃ A', Lp w A' (n - k) (c - k) (ls.drop k) ∧ (∀ ad, A' = some ad → ∃ ad0, A = some ad0 ∧ ad0.block = ad.block) ∧ ∀ W : World, (Instr.slice 69 (.slice A n c) (some (.int .i64 (k : Int))) none none).run Try.prog W = .ok (.slice A' (n - k) (c - k)) W := by
  have hc := hl.cap
  refine ⟨_, ⟨hl.lf.from_ hk hc, by omega, fun e => ?_⟩, fun ad e => ?_, fun W => ?_⟩
  · have : A = none := by
      split at e
      · exact e
      · cases A with
        | none => rfl
        | some a => cases e
    rw [hl.none_ this]; omega
  · split at e
    · exact ⟨ad, e, rfl⟩
    · cases A with
      | none => cases e
      | some a =>
        injection e with e
        refine ⟨a, rfl, ?_⟩
        rw [← e]
        unfold Addr.add
        split <;> rfl
  · rw [run_slice_l (P := Try.prog) (t := 69) _ _ _ _ Try.underlying69 .i64 (k : Int) (by omega) (by omega)]
    by_cases h0 : c = k
    · cases A <;> simp [Result.andThen, sliced, go_sem, h0]
    · have h2 : ¬ c - k = 0 := by omega
      simp [Result.andThen, sliced, go_sem, h0, h2]
theorem lp_from2 {g o : Nat} (hl : Lp w (some ⟨g, o, none⟩) n c ls) (hk : k ≤ n) : (c = k → Lp w (some ⟨g, o, none⟩) (n - k) 0 (ls.drop k)) ∧ (c ≠ k → Lp w (some ⟨g, o + k * 2, none⟩) (n - k) (c - k) (ls.drop k)) := by
  have hc := hl.cap
  have h1 := hl.lf.from_ hk hc
  refine ⟨fun e => ?_, fun e => ?_⟩
  · rw [if_pos e] at h1
    exact ⟨h1, by omega, fun f => by cases f⟩
  · rw [if_neg e, Option.map_some, add_plain] at h1
    exact ⟨h1, by omega, fun f => by cases f⟩
theorem keys_mid (hs : Sl w A n c zs) (h1 : l ≤ h) (h2 : h ≤ n) : ∃ A', Sl w A' (h - l) (c - l) ((zs.take h).drop l) ∧ ∀ W : World, (Instr.slice 29 (.slice A n c) (some (.int .i64 (l : Int))) (some (.int .i64 (h : Int))) none).run Try.prog W = .ok (.slice A' (h - l) (c - l)) W := by
  have hc := hs.cap
  refine ⟨_, (hs.upto h2).from_ h1, fun W => ?_⟩
  rw [run_slice_lh (P := Try.prog) (t := 29) _ _ _ _ rowK.under2 .i64 .i64 (l : Int) (h : Int) (by omega) (by omega) (by omega), rowK.elem W]
  have e : ((h : Int) - (l : Int)).toNat = h - l := by omega
  by_cases h0 : c = l
  · simp [Result.andThen, sliced, h0, e]
  · have h3 : ¬ c - l = 0 := by omega
    simp [Result.andThen, sliced, h0, h3, e]
theorem kids_mid {g off : Nat} (h1 : l ≤ h) (h2 : h ≤ n) (hc : n ≤ c) : ∃ o, (l < h → o = off + l * 5) ∧ ∀ W : World, (Instr.slice 91 (.slice (some ⟨g, off, none⟩) n c) (some (.int .i64 (l : Int))) (some (.int .i64 (h : Int))) none).run Try.prog W = .ok (.slice (some ⟨g, o, none⟩) (h - l) (c - l)) W := by
  refine ⟨if c = l then off else off + l * 5, fun h => if_neg (by omega), fun W => ?_⟩
  rw [run_slice_lh (P := Try.prog) (t := 91) _ _ _ _ Try.underlying91 .i64 .i64 (l : Int) (h : Int) (by omega) (by omega) (by omega)]
  have e : ((h : Int) - (l : Int)).toNat = h - l := by omega
  by_cases h0 : c = l
  · simp [Result.andThen, sliced, go_sem, add_plain, h0, e]
  · have h3 : ¬ c - l = 0 := by omega
    simp [Result.andThen, sliced, go_sem, add_plain, h0, h3, e]
theorem mid_at {Y : Nat → Prop} {kids : List Sh} {g off o : Nat} (hk : ShYC Y w kids g off) (h1 : l ≤ h) (h2 : h ≤ kids.length) (ho : l < h → o = off + l * 5) : ShYC Y w ((kids.take h).drop l) g o := by
  by_cases h3 : l < h
  · rw [ho h3]; exact (hk.take h).drop l
  · rw [List.drop_eq_nil_of_le (by simp; omega)]; exact trivial
end
end Go.Proofs.Ytmnldlhpiapalaa
