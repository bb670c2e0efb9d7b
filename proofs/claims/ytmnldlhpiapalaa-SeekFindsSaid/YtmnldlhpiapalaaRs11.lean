/-
  Pairs whose keys rise, as the laws make them.
-/
import Derived.Test.YtmnldlhpiapalaaPa
import Derived.ProofKit
import Derived.OpenShut
import Derived.WalkSpells
import Derived.BigQuiet
import Derived.Deep.QuietTactic
namespace Go.Proofs.Ytmnldlhpiapalaa
open Go.ChangeShapes Go.WideShapes Go.ChangeAt Go.RowKit
set_option linter.unusedVariables false
set_option linter.unusedSimpArgs false
set_option maxRecDepth 20000

/-- Keys rise. -/
def Asc (l : List (Int × Int)) : Prop := l.Pairwise fun a b => a.1 < b.1

/-- Where a key is; -1: it isn't there. -/
def findL : List (Int × Int) → Int → Nat → Int
  | [], _, _ => -1
  | p :: l, x, i => if p.1 = x then i else findL l x (i + 1)

/-- The number of the pairs ahead of the first key that isn't below x. -/
def lo : List (Int × Int) → Int → Nat
  | [], _ => 0
  | p :: l, x => if p.1 < x then lo l x + 1 else 0

/-- A key's value. -/
def getL : List (Int × Int) → Int → Option Int
  | [], _ => none
  | p :: l, x => if p.1 < x then getL l x else if p.1 = x then some p.2 else none

def hasL (l : List (Int × Int)) (x : Int) : Bool := (getL l x).isSome
def valL (l : List (Int × Int)) (x : Int) : Int := (getL l x).getD 0

/-- One round of the law's own Put. -/
def putStep (x v : Int) (s : List (Int × Int) × Bool) (p : Int × Int) : List (Int × Int) × Bool :=
  let s1 := if s.2 = false ∧ x ≤ p.1 then (s.1 ++ [(x, v)], true) else s
  if p.1 = x then s1 else (s1.1 ++ [p], s1.2)
def putTo (l : List (Int × Int)) (x v : Int) : List (Int × Int) × Bool := l.foldl (putStep x v) ([], false)
def putL (l : List (Int × Int)) (x v : Int) : List (Int × Int) := if (putTo l x v).2 then (putTo l x v).1 else (putTo l x v).1 ++ [(x, v)]

def cutL (l : List (Int × Int)) (x : Int) : List (Int × Int) := l.filter fun p => decide (p.1 ≠ x)
def betweenL (l : List (Int × Int)) (a b : Int) : List (Int × Int) := l.filter fun p => decide (a ≤ p.1 ∧ p.1 ≤ b)

/-- The law's own Rising: the value tells the place. -/
def risingTo (raw : List Int) (k : Nat) : List (Int × Int) := (List.range k).foldl (fun s i => putL s (raw.getD i 0) ((i : Int) + 100)) []
def risingL (raw : List Int) : List (Int × Int) := risingTo raw raw.length

theorem risingTo_succ (raw : List Int) (k : Nat) : risingTo raw (k + 1) = putL (risingTo raw k) (raw.getD k 0) ((k : Int) + 100) := by
  simp [risingTo, List.range_succ, List.foldl_append]

theorem findL_ge (l : List (Int × Int)) (x : Int) (i : Nat) : findL l x i = -1 ∨ (i : Int) ≤ findL l x i := by
  induction l generalizing i with
  | nil => left; rfl
  | cons p l ih =>
    unfold findL
    split
    · right; omega
    · rcases ih (i + 1) with h | h
      · left; exact h
      · right; omega

theorem lo_le (l : List (Int × Int)) (x : Int) : lo l x ≤ l.length := by
  induction l with
  | nil => simp [lo]
  | cons p l ih => unfold lo; split <;> simp <;> omega

theorem Asc.tail {p : Int × Int} {l : List (Int × Int)} (h : Asc (p :: l)) : Asc l := (List.pairwise_cons.1 h).2
theorem Asc.head {p : Int × Int} {l : List (Int × Int)} (h : Asc (p :: l)) : ∀ q ∈ l, p.1 < q.1 := (List.pairwise_cons.1 h).1

/-- Of keys that rise just those at places ahead of lo are below x. -/
theorem lo_iff {l : List (Int × Int)} (ha : Asc l) (x : Int) (i : Nat) (hi : i < l.length) : l[i].1 < x ↔ i < lo l x := by
  induction l generalizing i with
  | nil => simp at hi
  | cons p l ih =>
    unfold lo
    cases i with
    | zero => simp only [List.getElem_cons_zero]; split <;> simp_all
    | succ i =>
      simp only [List.getElem_cons_succ]
      have hi' : i < l.length := by simpa using hi
      have := ih ha.tail i hi'
      have hp := ha.head _ (List.getElem_mem hi')
      split
      · omega
      · omega

theorem has_iff {l : List (Int × Int)} (x : Int) : hasL l x = true ↔ ∃ h : lo l x < l.length, l[lo l x].1 = x := by
  unfold hasL
  induction l with
  | nil => simp [getL]
  | cons p l ih =>
    unfold getL lo
    by_cases h1 : p.1 < x
    · simp only [h1, if_true, ih, List.length_cons, List.getElem_cons_succ]
      constructor
      · rintro ⟨a, b⟩; exact ⟨by omega, b⟩
      · rintro ⟨a, b⟩; exact ⟨by omega, b⟩
    · by_cases h2 : p.1 = x <;> simp [h1, h2]

theorem val_at {l : List (Int × Int)} (x : Int) (h : hasL l x = true) : ∃ h : lo l x < l.length, l[lo l x].1 = x ∧ l[lo l x].2 = valL l x := by
  induction l with
  | nil => simp [hasL, getL] at h
  | cons p l ih =>
    unfold hasL getL at h
    unfold valL getL lo
    by_cases h1 : p.1 < x
    · simp only [h1, if_true] at h
      obtain ⟨a, b, c⟩ := ih h
      simp only [h1, if_true, List.length_cons, List.getElem_cons_succ]
      exact ⟨by omega, b, c⟩
    · by_cases h2 : p.1 = x
      · simp [h2]
      · simp [h1, h2] at h

theorem val_none {l : List (Int × Int)} {x : Int} (h : hasL l x = false) : valL l x = 0 := by
  unfold hasL at h
  unfold valL
  cases hg : getL l x with
  | none => rfl
  | some v => simp [hg] at h

/-- What the law's own Find tells, of keys that rise. -/
theorem findL_eq {l : List (Int × Int)} (ha : Asc l) (x : Int) (i : Nat) : findL l x i = if hasL l x = true then ((i + lo l x : Nat) : Int) else -1 := by
  induction l generalizing i with
  | nil => simp [findL, hasL, getL]
  | cons p l ih =>
    unfold findL
    by_cases h2 : p.1 = x
    · simp [h2, hasL, getL, lo]
    · rw [if_neg h2, ih ha.tail]
      by_cases h1 : p.1 < x
      · have e1 : hasL (p :: l) x = hasL l x := by simp [hasL, getL, h1]
        have e2 : lo (p :: l) x = lo l x + 1 := by simp [lo, h1]
        rw [e1, e2]
        split
        · omega
        · rfl
      · have e1 : hasL (p :: l) x = false := by simp [hasL, getL, h1, h2]
        have e2 : hasL l x = false := by
          rcases hh : hasL l x with _ | _
          · rfl
          · obtain ⟨a, b⟩ := (has_iff x).1 hh
            have := ha.head _ (List.getElem_mem a)
            omega
        simp [e1, e2]

/-! ### Put and Cut -/

theorem putTo_done (l : List (Int × Int)) (x v : Int) (o : List (Int × Int)) : l.foldl (putStep x v) (o, true) = (o ++ l.filter (fun p => decide (p.1 ≠ x)), true) := by
  induction l generalizing o with
  | nil => simp
  | cons p l ih =>
    rw [List.foldl_cons]
    by_cases h : p.1 = x
    · have e : putStep x v (o, true) p = (o, true) := by simp [putStep, h]
      rw [e, ih]; simp [h]
    · have e : putStep x v (o, true) p = (o ++ [p], true) := by simp [putStep, h]
      rw [e, ih]; simp [h]

theorem putTo_open (l : List (Int × Int)) (x v : Int) (o : List (Int × Int)) :
    l.foldl (putStep x v) (o, false) = if lo l x < l.length then (o ++ l.take (lo l x) ++ (x, v) :: (l.drop (lo l x)).filter (fun p => decide (p.1 ≠ x)), true) else (o ++ l, false) := by
  induction l generalizing o with
  | nil => simp [lo]
  | cons p l ih =>
    rw [List.foldl_cons]
    by_cases h : p.1 < x
    · have hne : ¬ p.1 = x := by omega
      have hle : ¬ x ≤ p.1 := by omega
      have e : putStep x v (o, false) p = (o ++ [p], false) := by simp [putStep, hne, hle]
      have e2 : lo (p :: l) x = lo l x + 1 := by simp [lo, h]
      rw [e, ih, e2]
      by_cases hl : lo l x < l.length
      · rw [if_pos hl, if_pos (by simp; omega)]; simp
      · rw [if_neg hl, if_neg (by simp; omega)]; simp
    · have hle : x ≤ p.1 := by omega
      have e2 : lo (p :: l) x = 0 := by simp [lo, h]
      rw [e2, if_pos (by simp)]
      by_cases hx : p.1 = x
      · have e : putStep x v (o, false) p = (o ++ [(x, v)], true) := by simp [putStep, hx]
        rw [e, putTo_done]; simp [hx]
      · have e : putStep x v (o, false) p = (o ++ [(x, v)] ++ [p], true) := by simp [putStep, hx, hle]
        rw [e, putTo_done]; simp [hx]

theorem putL_any (l : List (Int × Int)) (x v : Int) : putL l x v = l.take (lo l x) ++ (x, v) :: (l.drop (lo l x)).filter (fun p => decide (p.1 ≠ x)) := by
  unfold putL putTo
  rw [putTo_open]
  by_cases h : lo l x < l.length
  · rw [if_pos h]; simp
  · rw [if_neg h]
    have hl : lo l x = l.length := by have := lo_le l x; omega
    simp [hl]

theorem drop_filter {l : List (Int × Int)} (ha : Asc l) (x : Int) : (l.drop (lo l x)).filter (fun p => decide (p.1 ≠ x)) = l.drop (lo l x + if hasL l x = true then 1 else 0) := by
  induction l with
  | nil => simp
  | cons p l ih =>
    by_cases h : p.1 < x
    · have e1 : hasL (p :: l) x = hasL l x := by simp [hasL, getL, h]
      have e2 : lo (p :: l) x = lo l x + 1 := by simp [lo, h]
      rw [e1, e2, List.drop_succ_cons, ih ha.tail, Nat.add_right_comm, List.drop_succ_cons]
    · have e2 : lo (p :: l) x = 0 := by simp [lo, h]
      have hl : l.filter (fun p => decide (p.1 ≠ x)) = l := by
        rw [List.filter_eq_self]
        intro q hq
        have := ha.head q hq
        simp; omega
      by_cases hx : p.1 = x
      · have e1 : hasL (p :: l) x = true := by simp [hasL, getL, hx]
        rw [e1, e2]; simp [hx]; simpa using hl
      · have e1 : hasL (p :: l) x = false := by simp [hasL, getL, h, hx]
        rw [e1, e2]; simp [hx]; simpa using hl

theorem putL_eq {l : List (Int × Int)} (ha : Asc l) (x v : Int) : putL l x v = l.take (lo l x) ++ (x, v) :: l.drop (lo l x + if hasL l x = true then 1 else 0) := by
  rw [putL_any, drop_filter ha]

theorem cutL_eq {l : List (Int × Int)} (ha : Asc l) (x : Int) : cutL l x = l.take (lo l x) ++ l.drop (lo l x + if hasL l x = true then 1 else 0) := by
  rw [← drop_filter ha]
  unfold cutL
  have h : (l.take (lo l x)).filter (fun p => decide (p.1 ≠ x)) = l.take (lo l x) := by
    rw [List.filter_eq_self]
    intro q hq
    obtain ⟨i, hi, rfl⟩ := List.mem_iff_getElem.1 hq
    rw [List.getElem_take]
    rw [List.length_take] at hi
    have := (lo_iff ha x i (by omega)).2 (by omega)
    simp; omega
  conv => lhs; rw [← List.take_append_drop (lo l x) l, List.filter_append, h]

theorem take_lt {l : List (Int × Int)} (ha : Asc l) (x : Int) : ∀ q ∈ l.take (lo l x), q.1 < x := by
  intro q hq
  obtain ⟨i, hi, rfl⟩ := List.mem_iff_getElem.1 hq
  rw [List.getElem_take]
  rw [List.length_take] at hi
  exact (lo_iff ha x i (by omega)).2 (by omega)

theorem asc_putL {l : List (Int × Int)} (ha : Asc l) (x v : Int) : Asc (putL l x v) := by
  rw [putL_any]
  unfold Asc
  rw [List.pairwise_append]
  refine ⟨List.Pairwise.sublist (List.take_sublist _ _) ha, ?_, ?_⟩
  · rw [List.pairwise_cons]
    refine ⟨?_, List.Pairwise.sublist (List.Sublist.trans List.filter_sublist (List.drop_sublist _ _)) ha⟩
    intro q hq
    obtain ⟨h1, h2⟩ := List.mem_filter.1 hq
    obtain ⟨i, hi, rfl⟩ := List.mem_iff_getElem.1 h1
    rw [List.length_drop] at hi
    simp only [List.getElem_drop, ne_eq, decide_not, Bool.not_eq_true', decide_eq_false_iff_not] at h2 ⊢
    have := lo_iff ha x (lo l x + i) (by omega)
    show x < _
    omega
  · intro a h1 b h2
    have ha1 := take_lt ha x a h1
    rcases List.mem_cons.1 h2 with rfl | h2
    · exact ha1
    · have h3 := (List.mem_filter.1 h2).1
      obtain ⟨i, hi, rfl⟩ := List.mem_iff_getElem.1 h3
      rw [List.length_drop] at hi
      rw [List.getElem_drop]
      have := lo_iff ha x (lo l x + i) (by omega)
      omega

theorem asc_cutL {l : List (Int × Int)} (ha : Asc l) (x : Int) : Asc (cutL l x) := List.Pairwise.sublist List.filter_sublist ha

theorem asc_risingTo (raw : List Int) (k : Nat) : Asc (risingTo raw k) := by
  induction k with
  | zero => exact List.Pairwise.nil
  | succ k ih => rw [risingTo_succ]; exact asc_putL ih _ _

theorem putL_length (l : List (Int × Int)) (x v : Int) : (putL l x v).length ≤ l.length + 1 := by
  rw [putL_any]
  have h := List.length_filter_le (fun p => decide (p.1 ≠ x)) (l.drop (lo l x))
  have := lo_le l x
  simp only [List.length_append, List.length_cons, List.length_take, List.length_drop] at *
  omega

theorem cutL_length (l : List (Int × Int)) (x : Int) : (cutL l x).length ≤ l.length := List.length_filter_le _ _

theorem risingTo_length (raw : List Int) (k : Nat) : (risingTo raw k).length ≤ k := by
  induction k with
  | zero => simp [risingTo]
  | succ k ih => rw [risingTo_succ]; have := putL_length (risingTo raw k) (raw.getD k 0) ((k : Int) + 100); omega

/-- Of keys that rise the first one in order: held against the neighbour alone. -/
theorem asc_iff (l : List (Int × Int)) : Asc l ↔ ∀ i (h : i + 1 < l.length), (l[i]'(by omega)).1 < l[i + 1].1 := by
  constructor
  · intro ha i h
    exact List.pairwise_iff_getElem.1 ha i (i + 1) (by omega) h (by omega)
  · intro h
    refine List.pairwise_iff_getElem.2 fun i j hi hj hij => ?_
    obtain ⟨d, rfl⟩ : ∃ d, j = i + 1 + d := ⟨j - i - 1, by omega⟩
    clear hij
    induction d with
    | zero => exact h i hj
    | succ d ih =>
      have h1 := ih (by omega)
      have h2 := h (i + 1 + d) (by omega)
      exact Int.lt_trans h1 h2

theorem putTo_length (l : List (Int × Int)) (x v : Int) : (putTo l x v).1.length ≤ l.length + 1 := by
  have h := putTo_open l x v []
  unfold putTo
  rw [h]
  split
  · rename_i hlt
    have h2 := List.length_filter_le (fun p => decide (p.1 ≠ x)) (l.drop (lo l x))
    simp only [List.nil_append, List.length_append, List.length_cons, List.length_take, List.length_drop] at *
    omega
  · simp

set_option maxHeartbeats 2000000 in
theorem lawPut_walk (A : Option Addr) (n c : Nat) (l : List (Int × Int)) (x y : Int) (w : World) (h : Lf w A n l) (hn : n ≤ 50000) :
    Calls Try.prog 102 #[.slice A n c, .int .i64 x, .int .i64 y] w fun e w' => ∃ v, e = .returned v ∧ Own w w' v (putL l x y) := by
  go_enter Try.func102, Try.ntmps102
  go_wp2
  go_loopw [7, 8, 13] (fun v d i wr => ∃ k : Nat, k ≤ n ∧ i = .int .i64 k ∧ d = .bool (putTo (l.take k) x y).2 ∧ Own w wr v (putTo (l.take k) x y).1) (fun _ _ i _ => n - (intOf i).toNat)
  case atStart => exact ⟨0, Nat.zero_le _, rfl, rfl, Own.nil _⟩
  case round =>
    obtain ⟨k, hk, rfl, rfl, hown⟩ := hrel
    have hlen : (putTo (l.take k) x y).1.length ≤ 60000 := by have := putTo_length (l.take k) x y; rw [List.length_take] at this; omega
    by_cases hlt : k < n
    · have hll : k < l.length := by rw [← h.len]; exact hlt
      obtain ⟨b, off, rfl, hbl, c1, c2⟩ := h.at_ hll
      have hb := hown.below
      have d1 := (hb.cell (p := ⟨b, off + k * 2, none⟩) hbl).trans c1
      have d2 := (hb.cell (p := ⟨b, off + k * 2 + 1, none⟩) hbl).trans c2
      have hbl' : b < wr.heap.size := by have := hb.size; omega
      have hs : putTo (l.take (k + 1)) x y = putStep x y (putTo (l.take k) x y) l[k] := by rw [take_snoc l k hll]; unfold putTo; rw [List.foldl_append]; rfl
      have HS := Lib.hid hs
      clear hs
      generalize l[k] = p at *
      generalize putTo (l.take k) x y = s at *
      obtain ⟨out, d⟩ := s
      cases d with
      | false =>
        by_cases t1 : x ≤ p.1
        · by_cases t2 : p.1 = x
          · have t2' : (p.1 != x) = false := by simpa using t2
            have e : putStep x y (out, false) p = (out ++ [(x, y)], true) := by simp [putStep, t2]
            have HE := Lib.hid e
            clear e t2
            go_wp2_with (at_builtin; refine push rfl (.tmp 25) (.tmp 29) rfl _ out rfl ((hown.alloc _).alloc _) (wr.heap.size + 1) (x, y) rfl (by simp) (by simp) (by simp at hlen; omega) ?_; intro v' w' hown' hkeep hsz; have e1 := hkeep wr.heap.size 0 hown.size (by simp; omega) (fun e => by have := (hown.block_lt _ e).2; omega); have e2 := hkeep wr.heap.size 1 hown.size (by simp; omega) (fun e => by have := (hown.block_lt _ e).2; omega); simp at e1 e2; clear hkeep)
            go_roundw
            case rel => exact ⟨k + 1, by omega, by go_num, by rw [HS.out, HE.out], by rw [HS.out, HE.out]; exact hown'⟩
            case measure => simp [intOf]; omega
          · have t2' : (p.1 != x) = true := by simpa using t2
            have e : putStep x y (out, false) p = (out ++ [(x, y)] ++ [p], true) := by simp [putStep, t2, t1]
            have HE := Lib.hid e
            clear e t2
            go_wp2_with (first | (at_builtin; refine push rfl (.tmp 25) (.tmp 29) rfl _ out rfl ((hown.alloc _).alloc _) (wr.heap.size + 1) (x, y) rfl (by simp) (by simp) (by simp at hlen; omega) ?_; intro v' w' hown' hkeep hsz; have e1 := hkeep wr.heap.size 0 hown.size (by simp; omega) (fun e => by have := (hown.block_lt _ e).2; omega); have e2 := hkeep wr.heap.size 1 hown.size (by simp; omega) (fun e => by have := (hown.block_lt _ e).2; omega); simp at e1 e2 hsz; clear hkeep) | (at_builtin; refine push rfl (.tmp 35) (.tmp 37) rfl _ (out ++ [(x, y)]) rfl (hown'.alloc _) w'.heap.size p rfl (by simp) (by simp) (by simp at hlen ⊢; omega) ?_; intro v2 w2 hown2 hkeep2 hsz2))
            go_roundw
            case rel => exact ⟨k + 1, by omega, by go_num, by rw [HS.out, HE.out], by rw [HS.out, HE.out]; exact hown2⟩
            case measure => simp [intOf]; omega
        · have t2 : ¬ p.1 = x := by omega
          have t2' : (p.1 != x) = true := by simpa using t2
          have e : putStep x y (out, false) p = (out ++ [p], false) := by simp [putStep, t2, t1]
          have HE := Lib.hid e
          clear e t2
          go_wp2_with (at_builtin; refine push rfl (.tmp 35) (.tmp 37) rfl _ out rfl ((hown.alloc _).alloc _) (wr.heap.size + 1) p rfl (by simp) (by simp) (by simp at hlen; omega) ?_; intro v' w' hown' hkeep hsz)
          go_roundw
          case rel => exact ⟨k + 1, by omega, by go_num, by rw [HS.out, HE.out], by rw [HS.out, HE.out]; exact hown'⟩
          case measure => simp [intOf]; omega
      | true =>
        by_cases t2 : p.1 = x
        · have t2' : (p.1 != x) = false := by simpa using t2
          have e : putStep x y (out, true) p = (out, true) := by simp [putStep, t2]
          have HE := Lib.hid e
          clear e t2
          go_wp2
          go_roundw
          case rel => exact ⟨k + 1, by omega, by go_num, by rw [HS.out, HE.out], by rw [HS.out, HE.out]; exact hown.alloc _⟩
          case measure => simp [intOf]; omega
        · have t2' : (p.1 != x) = true := by simpa using t2
          have e : putStep x y (out, true) p = (out ++ [p], true) := by simp [putStep, t2]
          have HE := Lib.hid e
          clear e t2
          go_wp2_with (at_builtin; refine push rfl (.tmp 35) (.tmp 37) rfl _ out rfl ((hown.alloc _).alloc _) (wr.heap.size + 1) p rfl (by simp) (by simp) (by simp at hlen; omega) ?_; intro v' w' hown' hkeep hsz)
          go_roundw
          case rel => exact ⟨k + 1, by omega, by go_num, by rw [HS.out, HE.out], by rw [HS.out, HE.out]; exact hown'⟩
          case measure => simp [intOf]; omega
    · have hall : l.take k = l := List.take_of_length_le (by have := h.len; omega)
      rw [hall] at hown hlen
      rw [hall]
      clear hall
      have HP : Hid (putL l x y = if (putTo l x y).2 then (putTo l x y).1 else (putTo l x y).1 ++ [(x, y)]) := rfl
      generalize putTo l x y = s at *
      obtain ⟨out, d⟩ := s
      cases d with
      | true =>
        go_wp2
        go_ret
        refine ⟨_, rfl, ?_⟩
        rw [HP.out]
        exact hown
      | false =>
        go_wp2_with (at_builtin; refine push rfl (.tmp 42) (.tmp 46) rfl _ out rfl (hown.alloc _) wr.heap.size (x, y) rfl (by simp) (by simp) (by simp at hlen; omega) ?_; intro v' w' hown' hkeep hsz)
        go_ret
        refine ⟨_, rfl, ?_⟩
        rw [HP.out]
        exact hown'

set_option maxHeartbeats 1000000 in
theorem rising_walk (A : Option Addr) (n c : Nat) (zs : List Int) (w : World) (h : Sl w A n c zs) (hn : n ≤ 1000) :
    Calls Try.prog 70 #[.slice A n c] w fun e w' => ∃ v, e = .returned v ∧ Own w w' v (risingL zs) := by
  go_enter Try.func70, Try.ntmps70
  go_wp2
  go_loopw [3, 8] (fun v i wr => ∃ k : Nat, k ≤ n ∧ i = .int .i64 k ∧ Own w wr v (risingTo zs k)) (fun _ i _ => n - (intOf i).toNat)
  case atStart => exact ⟨0, Nat.zero_le _, rfl, Own.nil _⟩
  case round =>
    obtain ⟨k, hk, rfl, hown⟩ := hrel
    by_cases hlt : k < n
    · obtain ⟨b, off, rfl, hbl, c1⟩ := h.at0 hlt
      have hb := hown.below
      have d1 := (hb.cell (p := ⟨b, off + k, none⟩) hbl).trans c1
      have hlen := risingTo_length zs k
      have HS := Lib.hid (risingTo_succ zs k)
      have H1 := Lib.hid hown
      obtain ⟨A', c', rfl, hc', _, hlf⟩ := hown.form
      clear hown
      generalize zs.getD k 0 = z at *
      generalize risingTo zs k = rs at *
      go_wp2_with fail
      refine (lawPut_walk A' rs.length c' rs z ((k : Int) + 100) wr hlf (by omega)).mono ?_
      rintro e w1 ⟨v1, rfl, hown1⟩
      go_wp2
      go_roundw
      case rel => exact ⟨k + 1, by omega, by go_num, by rw [HS.out]; exact hown1.since H1.out.below⟩
      case measure => simp [intOf]; omega
    · obtain rfl : k = n := by omega
      go_wp2
      go_ret
      exact ⟨_, rfl, by unfold risingL; rw [← h.len]; exact hown⟩


end Go.Proofs.Ytmnldlhpiapalaa
