/-
  A tree's pairs from left to right; trees whose keys stand in their places.
-/
import Derived.Test.YtmnldlhpiapalaaSh11
import Derived.Test.YtmnldlhpiapalaaRs11
import Derived.Test.YtmnldlhpiapalaaSw11
namespace Go.Proofs.Ytmnldlhpiapalaa
open Go.ChangeShapes Go.WideShapes Go.ChangeAt Go.RowKit
set_option linter.unusedVariables false
set_option linter.unusedSimpArgs false
set_option maxRecDepth 20000

mutual
/-- A tree's pairs, from left to right. -/
def Sh.all : Sh → List (Int × Int)
  | .mk _ _ ps _ kids => ps ++ Sh.allL kids
def Sh.allL : List Sh → List (Int × Int)
  | [] => []
  | s :: l => s.all ++ Sh.allL l
end
/-- Keys between trees: what lies ahead of a key is below it, what lies behind isn't. Key j stands ahead of tree j + o. -/
def sepAt (o : Nat) (ks : List Int) (l : List Sh) : Prop := ∀ (j m : Nat) (z : Int) (t : Sh), ks[j]? = some z → l[m]? = some t → ∀ q ∈ t.all, (m < j + o → q.1 < z) ∧ (j + o ≤ m → z ≤ q.1)
mutual
/-- Keys stand in their places. -/
def Sh.ord : Sh → Prop
  | .mk lf _ ps ks kids => (lf = false → ps = []) ∧ Asc ps ∧ sepAt 1 ks kids ∧ Sh.ordL kids
def Sh.ordL : List Sh → Prop
  | [] => True
  | s :: l => s.ord ∧ Sh.ordL l
end
theorem allL_append (l m : List Sh) : Sh.allL (l ++ m) = Sh.allL l ++ Sh.allL m := by
  induction l with
  | nil => rfl
  | cons s l ih => simp only [List.cons_append, Sh.allL, ih, List.append_assoc]
theorem ordL_append (l m : List Sh) : Sh.ordL (l ++ m) ↔ Sh.ordL l ∧ Sh.ordL m := by
  induction l with
  | nil => simp [Sh.ordL]
  | cons s l ih => simp only [List.cons_append, Sh.ordL, ih, and_assoc]
theorem ordL_mem {l : List Sh} (h : Sh.ordL l) {s : Sh} (hs : s ∈ l) : s.ord := by
  induction l with
  | nil => cases hs
  | cons a l ih =>
    rcases List.mem_cons.1 hs with rfl | hs
    · exact h.1
    · exact ih h.2 hs
theorem ordL_take {l : List Sh} (h : Sh.ordL l) (k : Nat) : Sh.ordL (l.take k) ∧ Sh.ordL (l.drop k) := by
  rw [← ordL_append, List.take_append_drop]; exact h
theorem allL_mem {l : List Sh} {q : Int × Int} (h : q ∈ Sh.allL l) : ∃ (m : Nat) (t : Sh), l[m]? = some t ∧ q ∈ t.all := by
  induction l with
  | nil => cases h
  | cons a l ih =>
    rcases List.mem_append.1 h with h | h
    · exact ⟨0, a, rfl, h⟩
    · obtain ⟨m, t, h1, h2⟩ := ih h
      exact ⟨m + 1, t, by simpa using h1, h2⟩
theorem mem_allL {l : List Sh} {q : Int × Int} {m : Nat} {t : Sh} (h : l[m]? = some t) (hq : q ∈ t.all) : q ∈ Sh.allL l := by
  induction l generalizing m with
  | nil => cases h
  | cons a l ih =>
    cases m with
    | zero => injection h with h; subst h; exact List.mem_append_left _ hq
    | succ m => exact List.mem_append_right _ (ih (by simpa using h))
theorem sepAt_nil (o : Nat) (l : List Sh) : sepAt o [] l := fun j m z t h => by simp at h
/-- A part of a row, as a node's ways. -/
theorem sepAt_group {ks : List Int} {l : List Sh} (h : sepAt 0 ks l) (i n : Nat) : sepAt 1 ((ks.take (i + n)).drop (i + 1)) ((l.take (i + n)).drop i) := by
  intro j m z t hz ht q hq
  rw [List.getElem?_drop, List.getElem?_take] at hz ht
  split at hz
  · split at ht
    · have := h (i + 1 + j) (i + m) z t hz ht q hq
      exact ⟨fun e => this.1 (by omega), fun e => this.2 (by omega)⟩
    · cases ht
  · cases hz
/-- Two of the ways below one: their keys stand in their places as well. -/
theorem sepAt_tag {ks : List Int} {kids : List Sh} {j : Nat} {z : Int} {x y : Sh} (h : sepAt 1 ks kids) (hz : ks[j]? = some z) (hx : kids[j]? = some x) (hy : kids[j + 1]? = some y) (hl : ks.length + 1 = kids.length) : sepAt 1 (ks.take j ++ ks.drop (j + 1)) (kids.take j ++ (.mk false true [] [z] [x, y] :: kids.drop (j + 2))) ∧ sepAt 1 [z] [x, y] := by
  have hjk := (List.getElem?_eq_some_iff.1 hy).1
  have hjs := (List.getElem?_eq_some_iff.1 hz).1
  refine ⟨fun j' m z' t hz' ht q hq => ?_, fun j' m z' t hz' ht q hq => ?_⟩
  · obtain ⟨a, ha, hja⟩ : ∃ a, ks[a]? = some z' ∧ (j' < j ∧ a = j' ∨ j ≤ j' ∧ a = j' + 1) := by
      rw [List.getElem?_append] at hz'
      split at hz'
      · rename_i h1
        rw [List.length_take] at h1
        rw [List.getElem?_take, if_pos (by omega)] at hz'
        exact ⟨j', hz', .inl ⟨by omega, rfl⟩⟩
      · rename_i h1
        rw [List.length_take, Nat.min_eq_left (by omega)] at h1 hz'
        rw [List.getElem?_drop] at hz'
        exact ⟨j + 1 + (j' - j), hz', .inr ⟨by omega, by omega⟩⟩
    obtain ⟨b, u, hb, hqu, hmb⟩ : ∃ b u, kids[b]? = some u ∧ q ∈ u.all ∧ (m < j ∧ b = m ∨ m = j ∧ (b = j ∨ b = j + 1) ∨ j < m ∧ b = m + 1) := by
      rw [List.getElem?_append] at ht
      split at ht
      · rename_i h1
        rw [List.length_take] at h1
        rw [List.getElem?_take, if_pos (by omega)] at ht
        exact ⟨m, t, ht, hq, .inl ⟨by omega, rfl⟩⟩
      · rename_i h1
        rw [List.length_take, Nat.min_eq_left (by omega)] at h1 ht
        obtain ⟨d, hd⟩ : ∃ d, m = j + d := ⟨m - j, by omega⟩
        subst hd
        rw [Nat.add_sub_cancel_left] at ht
        cases d with
        | zero =>
          injection ht with ht
          subst ht
          have hq : q ∈ x.all ++ (y.all ++ []) := hq
          rcases List.mem_append.1 hq with f | f
          · exact ⟨j, x, hx, f, .inr (.inl ⟨rfl, .inl rfl⟩)⟩
          · rw [List.append_nil] at f
            exact ⟨j + 1, y, hy, f, .inr (.inl ⟨rfl, .inr rfl⟩)⟩
        | succ d =>
          rw [List.getElem?_cons_succ, List.getElem?_drop] at ht
          exact ⟨j + 2 + d, t, ht, hq, .inr (.inr ⟨by omega, by omega⟩)⟩
    have := h a b z' u ha hb q hqu
    exact ⟨fun e => this.1 (by omega), fun e => this.2 (by omega)⟩
  · have hj' : j' = 0 ∧ z' = z := by
      cases j' with
      | zero => injection hz' with hz'; exact ⟨rfl, hz'.symm⟩
      | succ j' => simp at hz'
    obtain ⟨rfl, rfl⟩ := hj'
    match m, ht with
    | 0, ht =>
      injection ht with ht; subst ht
      have := h j j z' x hz hx q hq
      exact ⟨fun _ => this.1 (by omega), fun e => by omega⟩
    | 1, ht =>
      injection ht with ht; subst ht
      have := h j (j + 1) z' y hz hy q hq
      exact ⟨fun e => by omega, fun _ => this.2 (by omega)⟩
/-- The value of a key, looked for from the left; -1: it isn't there. -/
def wantL : List (Int × Int) → Int → Int
  | [], _ => -1
  | p :: l, x => if p.1 = x then p.2 else wantL l x
theorem wantL_right {a b : List (Int × Int)} {x : Int} (h : ∀ q ∈ a, q.1 ≠ x) : wantL (a ++ b) x = wantL b x := by
  induction a with
  | nil => rfl
  | cons p a ih =>
    show (if p.1 = x then p.2 else wantL (a ++ b) x) = _
    rw [if_neg (h p (List.mem_cons_self ..)), ih fun q hq => h q (List.mem_cons_of_mem _ hq)]
theorem wantL_none {c : List (Int × Int)} {x : Int} (h : ∀ q ∈ c, q.1 ≠ x) : wantL c x = -1 := by
  have := wantL_right (b := []) h
  rw [List.append_nil] at this
  exact this
theorem wantL_left {b c : List (Int × Int)} {x : Int} (h : ∀ q ∈ c, q.1 ≠ x) : wantL (b ++ c) x = wantL b x := by
  induction b with
  | nil => exact wantL_none h
  | cons p b ih =>
    show (if p.1 = x then p.2 else wantL (b ++ c) x) = (if p.1 = x then p.2 else wantL b x)
    rw [ih]
/-- Where the laws find a key. -/
theorem findL_want (l : List (Int × Int)) (x : Int) (i : Nat) : (findL l x i = -1 ∧ wantL l x = -1) ∨ ∃ k p, findL l x i = ((i + k : Nat) : Int) ∧ l[k]? = some p ∧ wantL l x = p.2 := by
  induction l generalizing i with
  | nil => exact .inl ⟨rfl, rfl⟩
  | cons p l ih =>
    unfold findL wantL
    by_cases h : p.1 = x
    · rw [if_pos h, if_pos h]; exact .inr ⟨0, p, rfl, rfl, rfl⟩
    · rw [if_neg h, if_neg h]
      rcases ih (i + 1) with h1 | ⟨k, q, h1, h2, h3⟩
      · exact .inl h1
      · exact .inr ⟨k + 1, q, by rw [h1]; omega, by simpa using h2, h3⟩
theorem want_get {l : List (Int × Int)} (ha : Asc l) (x : Int) : wantL l x = if hasL l x = true then valL l x else -1 := by
  have h1 := findL_eq ha x 0
  rcases findL_want l x 0 with ⟨h2, h3⟩ | ⟨k, p, h2, h3, h4⟩
  · rw [h2] at h1
    split at h1
    · omega
    · rename_i hh
      rw [if_neg hh, h3]
  · rw [h2] at h1
    split at h1
    · rename_i hh
      rw [if_pos hh, h4]
      obtain ⟨hl, -, hv⟩ := val_at x hh
      have hk : k = lo l x := by omega
      subst hk
      rw [List.getElem?_eq_getElem hl] at h3
      injection h3 with h3
      rw [← h3]; exact hv
    · omega
/-- A key lies where its way leads. -/
theorem want_way {tg : Bool} {ps : List (Int × Int)} {ks : List Int} {kids : List Sh} {key : Int} {x : Sh} (h : (Sh.mk false tg ps ks kids).ord) (ha : Asc1 ks) (hl : ks.length + 1 = kids.length) (hk : kids[wayL ks key]? = some x) : wantL (Sh.mk false tg ps ks kids).all key = wantL x.all key := by
  obtain ⟨h1, -, h3, -⟩ := h
  have h1 := h1 rfl
  subst h1
  obtain ⟨w1, w2⟩ := way_split ha key
  have hne : ∀ (m : Nat) (t : Sh), kids[m]? = some t → m ≠ wayL ks key → ∀ q ∈ t.all, q.1 ≠ key := by
    intro m t ht hm q hq e
    have hwl := wayL_le ks key
    rcases Nat.lt_trichotomy m (wayL ks key) with f | f | f
    · have hj : wayL ks key - 1 < ks.length := by omega
      have g1 := w1 _ hj (by omega)
      have g2 := (h3 _ m _ t (List.getElem?_eq_getElem hj) ht q hq).1 (by omega)
      omega
    · exact hm f
    · have hm2 := (List.getElem?_eq_some_iff.1 ht).1
      have hj : wayL ks key < ks.length := by omega
      have g1 := w2 _ hj (Nat.le_refl _)
      have g2 := (h3 _ m _ t (List.getElem?_eq_getElem hj) ht q hq).2 (by omega)
      omega
  have hsp : kids = kids.take (wayL ks key) ++ (x :: kids.drop (wayL ks key + 1)) := by
    obtain ⟨e1, e2⟩ := List.getElem?_eq_some_iff.1 hk
    rw [← e2, List.getElem_cons_drop, List.take_append_drop]
  show wantL ([] ++ Sh.allL kids) key = _
  rw [List.nil_append, hsp, allL_append]
  rw [wantL_right, show Sh.allL (x :: kids.drop (wayL ks key + 1)) = x.all ++ Sh.allL (kids.drop (wayL ks key + 1)) from rfl, wantL_left]
  · intro q hq
    obtain ⟨m, t, h4, h5⟩ := allL_mem hq
    rw [List.getElem?_drop] at h4
    exact hne _ t h4 (by omega) q h5
  · intro q hq
    obtain ⟨m, t, h4, h5⟩ := allL_mem hq
    rw [List.getElem?_take] at h4
    split at h4
    · exact hne _ t h4 (by omega) q h5
    · cases h4
end Go.Proofs.Ytmnldlhpiapalaa
