/-
  Epochs in memory: the epoch, what each thread announced, the nodes that each let go; what a store into them makes of them.
-/
import Derived.Test.YtmnbdhngadjmiaaQu7
import Derived.Test.YtmnbdhngadjmiaaTail
import Derived.Lib.MinMax
namespace Go.Proofs.Ytmnbdhngadjmiaa
open Go.ChangeShapes Go.WideShapes Go.ChangeAt Go.RowKit
set_option linter.unusedVariables false
set_option linter.unusedSimpArgs false
set_option maxRecDepth 20000

/-- What a thread announced, and the nodes that it let go, each with its epoch. -/
abbrev Tq := Int × List (Int × Int)
/-- Threads' queues: a row of cells (cf says which) at T, each thread's queue in a block of its own. -/
structure Qs (F : Nat → Prop) (w : World) (el rt : TypeId) (sz : Nat) (cf : List (Tq × Value) → List Value) (l : List (Tq × Value)) (T : Value) : Prop where
  row : w.ownsRow 0 rt sz T l.length (cf l)
  frow : ∀ b, T.ownBlock = some b → F b
  que : ∀ x ∈ l, Qu el w x.2 x.1.2
  fque : ∀ x ∈ l, ∀ b, x.2.ownBlock = some b → F b
  sep : ∀ (i j : Nat) (x y : Tq × Value) (g : Nat), l[i]? = some x → l[j]? = some y → x.2.ownBlock = some g → y.2.ownBlock = some g → i = j
section
variable {F G : Nat → Prop} {w w' : World} {el rt : TypeId} {sz : Nat} {cf : List (Tq × Value) → List Value} {l : List (Tq × Value)} {T : Value} {i : Nat} {x : Tq × Value}
theorem Qs.keep (h : Qs F w el rt sz cf l T) (hb : ∀ b, F b → w'.heap[b]? = w.heap[b]?) : Qs F w' el rt sz cf l T :=
  ⟨own_at h.row fun b e => hb b (h.frow b e), h.frow, fun x hx => (h.que x hx).at_ fun b e => hb b (h.fque x hx b e), h.fque, h.sep⟩
theorem Qs.mono (h : Qs F w el rt sz cf l T) (hs : ∀ b, F b → G b) : Qs G w el rt sz cf l T :=
  ⟨h.row, fun b e => hs b (h.frow b e), h.que, fun x hx b e => hs b (h.fque x hx b e), h.sep⟩
/-- Its row, where there is a thread. -/
theorem Qs.form (h : Qs F w el rt sz cf l T) (hi : l[i]? = some x) : ∃ g c, T = .slice (some ⟨g, 0, none⟩) l.length c ∧ g < w.heap.size ∧ F g ∧ Ty w g rt ∧ l.length ≤ c ∧ (∀ j, j < l.length * sz → w.cell? ⟨g, j, none⟩ = (cf l)[j]?) ∧ ∀ j, w.frozen? ⟨g, j, none⟩ = false := by
  have hr := h.row
  have hl : i < l.length := (List.getElem?_eq_some_iff.1 hi).1
  rcases h.row.2 with ⟨_, h0⟩ | ⟨g, cap, cur, rfl, _, hg, h1, h2, _⟩
  · omega
  · exact ⟨g, cap, rfl, (Array.getElem?_eq_some_iff.1 hg).1, h.frow g rfl, ⟨cur, hg⟩, h1, fun j hj => World.ownsRow.cellAt hr _ hj, fun j => frozen_of_row w g j _ _ hg⟩
theorem Qs.shape (h : Qs F w el rt sz cf l T) : ∃ A c, T = .slice A l.length c := by
  rcases h.row.2 with ⟨rfl, h0⟩ | ⟨g, cap, cur, rfl, _⟩
  · exact ⟨none, 0, by rw [h0]⟩
  · exact ⟨_, cap, rfl⟩
/-- Behind a store into the row: thread i is (y, v) now; ahead of it its queue may have grown. -/
theorem Qs.put (h : Qs F w el rt sz cf l T) (hi : l[i]? = some x) {k : Nat} {u v : Value} {y : Tq} (hk : k < l.length * sz) (hset : (cf l).set k u = cf (l.set i (y, v))) (hg : w.grownBy w' x.2.ownBlock) (hq : Qu el w' v y.2)
    (hb : ∀ b, v.ownBlock = some b → x.2.ownBlock = some b ∨ w.heap.size ≤ b) (hlt : ∀ b, F b → b < w.heap.size) (hne : rt ≠ el) (hFG : ∀ b, F b → G b) (hvG : ∀ b, v.ownBlock = some b → G b)
    {g c : Nat} (hT : T = .slice (some ⟨g, 0, none⟩) l.length c) :
    Qs G (w'.setCell ⟨g, k, none⟩ u) el rt sz cf (l.set i (y, v)) T ∧ Only F w (w'.setCell ⟨g, k, none⟩ u) ∧ w'.cell? ⟨g, k, none⟩ = (cf l)[k]? ∧ w'.frozen? ⟨g, k, none⟩ = false ∧ w.heap.size ≤ (w'.setCell ⟨g, k, none⟩ u).heap.size ∧
    (∀ (b : Nat) (t : TypeId), Ty w b t → t ≠ el → t ≠ rt → (w'.setCell ⟨g, k, none⟩ u).heap[b]? = w.heap[b]?) := by
  have hil : i < l.length := (List.getElem?_eq_some_iff.1 hi).1
  have hxm := List.mem_of_getElem? hi
  subst hT
  have hgF : F g := h.frow g rfl
  have hgl := hlt g hgF
  have hgT : Ty w g rt := own_ty h.row rfl
  have hxT : ∀ b, x.2.ownBlock = some b → Ty w b el := fun b e => (h.que x hxm).ty e
  have hgg : w'.heap[g]? = w.heap[g]? := hg.block g hgl (fun e => hne (hgT.one (hxT g e.symm)))
  have hrow : w'.ownsRow 0 rt sz (.slice (some ⟨g, 0, none⟩) l.length c) l.length (cf l) := own_at h.row fun b e => by
    injection e with e; subst e; exact hgg
  have hgT' : Ty w' g rt := by obtain ⟨cur, e⟩ := hgT; exact ⟨cur, hgg.trans e⟩
  have ho : ∀ (b : Nat) (t : TypeId), Ty w b t → t ≠ el → t ≠ rt → (w'.setCell ⟨g, k, none⟩ u).heap[b]? = w.heap[b]? := by
    intro b t ht h1 h2
    have hbl : b < w.heap.size := by obtain ⟨cur, e⟩ := ht; exact (Array.getElem?_eq_some_iff.1 e).1
    rw [heap_setCell_other w' ⟨g, k, none⟩ b u (fun e => h2 (ht.one (by subst e; exact hgT)))]
    exact hg.block b hbl (fun e => h1 (ht.one (hxT b e.symm)))
  have hother : ∀ (j : Nat) (z : Tq × Value), l[j]? = some z → j ≠ i → Qu el (w'.setCell ⟨g, k, none⟩ u) z.2 z.1.2 := by
    intro j z hj hji
    have hzm := List.mem_of_getElem? hj
    refine (h.que z hzm).at_ fun b e => ?_
    rw [heap_setCell_other w' ⟨g, k, none⟩ b u (fun eb => hne (hgT.one (by subst eb; exact (h.que z hzm).ty e)))]
    exact hg.block b (hlt b (h.fque z hzm b e)) (fun eb => hji (h.sep j i z x b hj hi e eb.symm))
  have hst := World.ownsRow.stored hrow k u
  refine ⟨⟨?_, fun b e => hFG b (h.frow b e), ?_, ?_, ?_⟩, ?_, World.ownsRow.cellAt hrow k hk, World.ownsRow.frozenAt hrow k, by simpa using hg.size, ho⟩
  · have := hst.1
    rw [hset] at this
    rw [List.length_set]
    exact this
  · intro z hz
    obtain ⟨j, hj⟩ := List.getElem?_of_mem hz
    rw [List.getElem?_set] at hj
    by_cases e1 : i = j
    · subst e1
      rw [if_pos rfl, if_pos hil] at hj
      injection hj with hj; subst hj
      exact hq.at_ fun b e => heap_setCell_other w' ⟨g, k, none⟩ b u (fun eb => hne (hgT'.one (by subst eb; exact hq.ty e)))
    · rw [if_neg e1] at hj
      exact hother j z hj (fun e => e1 e.symm)
  · intro z hz b e
    rcases List.mem_or_eq_of_mem_set hz with hz | rfl
    · exact hFG b (h.fque z hz b e)
    · exact hvG b e
  · intro a b z z' g' ha hb' e1 e2
    rw [List.getElem?_set] at ha hb'
    by_cases h1 : i = a
    · by_cases h2 : i = b
      · omega
      · rw [if_neg h2] at hb'
        subst h1
        rw [if_pos rfl, if_pos hil] at ha
        injection ha with ha; subst ha
        rcases hb g' e1 with e | e
        · exact h.sep i b x z' g' hi hb' e e2
        · have := hlt g' (h.fque z' (List.mem_of_getElem? hb') g' e2)
          omega
    · rw [if_neg h1] at ha
      by_cases h2 : i = b
      · subst h2
        rw [if_pos rfl, if_pos hil] at hb'
        injection hb' with hb'; subst hb'
        rcases hb g' e2 with e | e
        · exact h.sep a i z x g' ha hi e1 e
        · have := hlt g' (h.fque z (List.mem_of_getElem? ha) g' e1)
          omega
      · rw [if_neg h2] at hb'
        exact h.sep a b z z' g' ha hb' e1 e2
  · exact (Only.grown F hg fun b e => h.fque x hxm b e).then (Only.set F w' (p := ⟨g, k, none⟩) hgF u)
end

/-- The program's row of threads. -/
def cE : List (Tq × Value) → List Value
  | [] => []
  | x :: l => .int .i64 x.1.1 :: x.2 :: cE l
theorem cE_length (l : List (Tq × Value)) : (cE l).length = l.length * 2 := by
  induction l with
  | nil => rfl
  | cons p l ih => simp [cE, ih]; omega
theorem cE_at {l : List (Tq × Value)} {i : Nat} {x : Tq × Value} (h : l[i]? = some x) : (cE l)[i * 2]? = some (.int .i64 x.1.1) ∧ (cE l)[i * 2 + 1]? = some x.2 := by
  induction l generalizing i with
  | nil => simp at h
  | cons q l ih =>
    cases i with
    | zero => simp at h; subst h; exact ⟨rfl, rfl⟩
    | succ i =>
      simp at h
      have := ih h
      rw [show (i + 1) * 2 = i * 2 + 1 + 1 from by omega]
      simpa [cE] using this
theorem cE_set0 {l : List (Tq × Value)} {i : Nat} {x : Tq × Value} (h : l[i]? = some x) (z : Int) : (cE l).set (i * 2) (.int .i64 z) = cE (l.set i ((z, x.1.2), x.2)) := by
  induction l generalizing i with
  | nil => simp at h
  | cons q l ih =>
    cases i with
    | zero => simp at h; subst h; rfl
    | succ i =>
      simp at h
      rw [show (i + 1) * 2 = i * 2 + 1 + 1 from by omega]
      simp [cE, ih h]
theorem cE_set1 {l : List (Tq × Value)} {i : Nat} {x : Tq × Value} (h : l[i]? = some x) (q : List (Int × Int)) (v : Value) : (cE l).set (i * 2 + 1) v = cE (l.set i ((x.1.1, q), v)) := by
  induction l generalizing i with
  | nil => simp at h
  | cons p l ih =>
    cases i with
    | zero => simp at h; subst h; rfl
    | succ i =>
      simp at h
      rw [show (i + 1) * 2 + 1 = i * 2 + 1 + 1 + 1 from by omega]
      simp [cE, ih h]

abbrev epT : TypeId := 96
abbrev onT : TypeId := 101
abbrev goT : TypeId := 110
/-- Epochs at block a: F are their blocks. -/
structure Ep (F : Nat → Prop) (w : World) (a : Nat) (now : Int) (l : List (Tq × Value)) (T : Value) : Prop where
  lt : ∀ b, F b → b < w.heap.size
  head : w.heap[a]? = some (.cells #[.int .i64 now, T] epT (0, 0))
  fa : F a
  qs : Qs F w goT onT 2 cE l T
/-- Epochs of threads S, wherever their slices lie. -/
def EpS (F : Nat → Prop) (w : World) (a : Nat) (now : Int) (S : List Tq) : Prop := ∃ l T, Ep F w a now l T ∧ S = l.map (·.1)
/-- Behind a call: the epochs are so, and nothing else has changed. -/
def NxE (F : Nat → Prop) (w : World) (a : Nat) (now : Int) (S : List Tq) (w' : World) : Prop := ∃ F', EpS F' w' a now S ∧ Only F w w' ∧ ∀ b, F' b → F b ∨ w.heap.size ≤ b
section
variable {F G : Nat → Prop} {w w' : World} {a i : Nat} {now : Int} {S : List Tq} {l : List (Tq × Value)} {T : Value} {x : Tq × Value}
theorem Ep.keep (h : Ep F w a now l T) (hb : ∀ b, F b → w'.heap[b]? = w.heap[b]?) (hs : w.heap.size ≤ w'.heap.size) : Ep F w' a now l T :=
  ⟨fun b e => Nat.lt_of_lt_of_le (h.lt b e) hs, (hb a h.fa).trans h.head, h.fa, h.qs.keep hb⟩
theorem Ep.below (h : Ep F w a now l T) (hb : Below w.heap.size w w') : Ep F w' a now l T := h.keep (fun b hF => hb.block b (h.lt b hF)) hb.size
theorem Ep.only (h : Ep F w a now l T) (hb : Only G w w') (hd : ∀ b, F b → ¬ G b) : Ep F w' a now l T := h.keep (fun b hF => hb.block b (h.lt b hF) (hd b hF)) hb.size
theorem EpS.below (h : EpS F w a now S) (hb : Below w.heap.size w w') : EpS F w' a now S := by obtain ⟨l, T, h, e⟩ := h; exact ⟨l, T, h.below hb, e⟩
theorem EpS.only (h : EpS F w a now S) (hb : Only G w w') (hd : ∀ b, F b → ¬ G b) : EpS F w' a now S := by obtain ⟨l, T, h, e⟩ := h; exact ⟨l, T, h.only hb hd, e⟩
theorem EpS.lt (h : EpS F w a now S) : ∀ b, F b → b < w.heap.size := by obtain ⟨l, T, h, e⟩ := h; exact h.lt
theorem NxE.same (h : EpS F w a now S) : NxE F w a now S w := ⟨F, h, Only.refl _ _, fun _ e => .inl e⟩
theorem NxE.of_below (h : EpS F w a now S) (hb : Below w.heap.size w w') : NxE F w a now S w' := ⟨F, h.below hb, Only.of_below F hb, fun _ e => .inl e⟩
theorem Ep.cells (h : Ep F w a now l T) : w.cell? ⟨a, 0, none⟩ = some (.int .i64 now) ∧ w.cell? ⟨a, 1, none⟩ = some T := by
  refine ⟨?_, ?_⟩ <;> (rw [cell_of_row w a _ _ _ (0, 0) h.head]; rfl)
theorem Ep.free (h : Ep F w a now l T) (j : Nat) : w.frozen? ⟨a, j, none⟩ = false := frozen_of_row w a j _ _ h.head
theorem Ep.tyA (h : Ep F w a now l T) : Ty w a epT := ⟨_, h.head⟩
theorem ep_ne : epT ≠ goT ∧ epT ≠ onT ∧ onT ≠ goT := by decide
/-- The next epoch. -/
theorem Ep.next (h : Ep F w a now l T) (n : Int) : Ep F (w.setCell ⟨a, 0, none⟩ (.int .i64 n)) a n l T ∧ Only F w (w.setCell ⟨a, 0, none⟩ (.int .i64 n)) := by
  obtain ⟨n1, n2, n3⟩ := ep_ne
  refine ⟨⟨fun b e => by simpa using h.lt b e, heap_setCell_same w a 0 _ _ _ h.head, h.fa, ?_⟩, Only.set F w (p := ⟨a, 0, none⟩) h.fa _⟩
  refine ⟨own_set h.qs.row h.tyA n2 _, h.qs.frow, fun x hx => (h.qs.que x hx).at_ fun b e => heap_setCell_other w ⟨a, 0, none⟩ b _ (fun eb => n1 (h.tyA.one (by subst eb; exact (h.qs.que x hx).ty e))), h.qs.fque, h.qs.sep⟩
/-- A thread's cells. -/
theorem Ep.at_ (h : Ep F w a now l T) (hi : l[i]? = some x) : ∃ g c, T = .slice (some ⟨g, 0, none⟩) l.length c ∧ g < w.heap.size ∧ l.length ≤ c ∧ i < l.length ∧ w.cell? ⟨g, i * 2, none⟩ = some (.int .i64 x.1.1) ∧ w.cell? ⟨g, i * 2 + 1, none⟩ = some x.2 ∧ ∀ j, w.frozen? ⟨g, j, none⟩ = false := by
  obtain ⟨g, c, hT, hg, -, -, hc, hcell, hf⟩ := h.qs.form hi
  have hil : i < l.length := (List.getElem?_eq_some_iff.1 hi).1
  have := cE_at hi
  exact ⟨g, c, hT, hg, hc, hil, by rw [hcell _ (by omega)]; exact this.1, by rw [hcell _ (by omega)]; exact this.2, hf⟩
theorem Ep.atT {g n c : Nat} (h : Ep F w a now l (.slice (some ⟨g, 0, none⟩) n c)) (hi : l[i]? = some x) : n = l.length ∧ w.cell? ⟨g, i * 2, none⟩ = some (.int .i64 x.1.1) ∧ w.cell? ⟨g, i * 2 + 1, none⟩ = some x.2 ∧ ∀ j, w.frozen? ⟨g, j, none⟩ = false := by
  obtain ⟨g', c', hT, -, -, -, h1, h2, h3⟩ := h.at_ hi
  injection hT with hT e1 _
  injection hT with hT
  injection hT with hT
  rw [hT]
  exact ⟨e1, h1, h2, h3⟩
/-- It announces z. -/
theorem Ep.said (h : Ep F w a now l T) (hi : l[i]? = some x) (z : Int) {g c : Nat} (hT : T = .slice (some ⟨g, 0, none⟩) l.length c) :
    Ep F (w.setCell ⟨g, i * 2, none⟩ (.int .i64 z)) a now (l.set i ((z, x.1.2), x.2)) T ∧ Only F w (w.setCell ⟨g, i * 2, none⟩ (.int .i64 z)) := by
  obtain ⟨n1, n2, n3⟩ := ep_ne
  have hil : i < l.length := (List.getElem?_eq_some_iff.1 hi).1
  obtain ⟨h1, h2, h3, h4, h5, h6⟩ := h.qs.put hi (k := i * 2) (u := .int .i64 z) (v := x.2) (y := (z, x.1.2)) (G := F) (by omega) (cE_set0 hi z) (World.grownBy.refl _ _) (h.qs.que x (List.mem_of_getElem? hi)) (fun b e => .inl e) h.lt n3 (fun _ e => e) (h.qs.fque x (List.mem_of_getElem? hi)) hT
  exact ⟨⟨fun b e => by simpa using h.lt b e, (h6 a _ h.tyA n1 n2).trans h.head, h.fa, h1⟩, h2⟩
/-- Its queue is another one. -/
theorem Ep.queue (h : Ep F w a now l T) (hi : l[i]? = some x) {v : Value} {q : List (Int × Int)} (hg : w.grownBy w' x.2.ownBlock) (hq : Qu goT w' v q) (hb : ∀ b, v.ownBlock = some b → x.2.ownBlock = some b ∨ w.heap.size ≤ b)
    {g c : Nat} (hT : T = .slice (some ⟨g, 0, none⟩) l.length c) :
    NxE F w a now ((l.map (·.1)).set i (x.1.1, q)) (w'.setCell ⟨g, i * 2 + 1, none⟩ v) ∧ w'.cell? ⟨g, i * 2 + 1, none⟩ = some x.2 ∧ w'.frozen? ⟨g, i * 2 + 1, none⟩ = false := by
  obtain ⟨n1, n2, n3⟩ := ep_ne
  have hil : i < l.length := (List.getElem?_eq_some_iff.1 hi).1
  obtain ⟨h1, h2, h3, h4, h5, h6⟩ := h.qs.put hi (k := i * 2 + 1) (u := v) (v := v) (y := (x.1.1, q)) (G := fun b => F b ∨ v.ownBlock = some b) (by omega) (cE_set1 hi q v) hg hq hb h.lt n3 (fun _ e => .inl e) (fun _ e => .inr e) hT
  refine ⟨⟨_, ⟨_, _, ⟨?_, (h6 a _ h.tyA n1 n2).trans h.head, .inl h.fa, h1⟩, by rw [List.map_set]⟩, h2, ?_⟩, by rw [h3]; exact (cE_at hi).2, h4⟩
  · rintro b (e | e)
    · exact Nat.lt_of_lt_of_le (h.lt b e) h5
    · simpa using hq.lt e
  · rintro b (e | e)
    · exact .inl e
    · exact (hb b e).imp (fun e => h.qs.fque x (List.mem_of_getElem? hi) b e) id
end
end Go.Proofs.Ytmnbdhngadjmiaa
