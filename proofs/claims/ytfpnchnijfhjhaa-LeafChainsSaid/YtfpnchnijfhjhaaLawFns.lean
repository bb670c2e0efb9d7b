/-
  What the law's own functions return, for every list of pairs: Find, Put, Cut, Between, Rises, keys, Rising, Same. None changes what was there.
-/
import Derived.Test.YtfpnchnijfhjhaaOwn
import Derived.Test.YtfpnchnijfhjhaaPlain
import Derived.ProofKit
import Derived.OpenShut
import Derived.WalkSpells
import Derived.BigQuiet
import Derived.Deep.QuietTactic
namespace Go.Proofs.Ytfpnchnijfhjhaa
open Go.ChangeShapes Go.WideShapes Go.ChangeAt Go.RowKit

theorem ret_int {k : IntKind} {a b : Int} (h : a = b) : Ending.returned (.int k a) = .returned (.int k b) := by rw [h]
theorem ret_bool {a b : Bool} (h : a = b) : Ending.returned (.bool a) = .returned (.bool b) := by rw [h]

theorem findL_drop {l : List (Int × Int)} {k : Nat} (hk : k < l.length) (x : Int) : findL (l.drop k) x k = if l[k].1 = x then (k : Int) else findL (l.drop (k + 1)) x (k + 1) := by
  rw [List.drop_eq_getElem_cons hk]; rfl

set_option maxHeartbeats 400000 in
theorem find_walk (A : Option Addr) (n c : Nat) (l : List (Int × Int)) (x : Int) (w : World) (h : Lf w A n l) (hn : n ≤ 100000) :
    Calls Try.prog 16 #[.slice A n c, .int .i64 x] w fun e w' => e = .returned (.int .i64 (findL l x 0)) ∧ Below w.heap.size w w' := by
  go_enter Try.func16, Try.ntmps16
  go_wp2
  go_loopw [9] (fun i wr => ∃ k : Nat, k ≤ n ∧ i = .int .i64 k ∧ findL l x 0 = findL (l.drop k) x k ∧ Below w.heap.size w wr) (fun i _ => n - (intOf i).toNat)
  case atStart => exact ⟨0, Nat.zero_le _, rfl, rfl, Below.refl _ _⟩
  case round =>
    obtain ⟨k, hk, rfl, hf, hb⟩ := hrel
    have HF := Lib.hid hf
    clear hf
    by_cases hlt : k < n
    · have hll : k < l.length := by rw [← h.len]; exact hlt
      obtain ⟨b, off, rfl, hbl, c1, c2⟩ := h.at_ hll
      have d1 := (hb.cell (p := ⟨b, off + k * 2, none⟩) hbl).trans c1
      have d2 := (hb.cell (p := ⟨b, off + k * 2 + 1, none⟩) hbl).trans c2
      have hbl' : b < wr.heap.size := by have := hb.size; omega
      have HS := Lib.hid (findL_drop hll x)
      go_wp2
      · go_ret
        refine ⟨ret_int ?_, hb.alloc hb.size _⟩
        rw [HF.out, HS.out, if_pos (by simpa using ‹(l[k].fst == x) = true›)]
      · go_roundw
        case rel => exact ⟨k + 1, by omega, by go_num, by rw [HF.out, HS.out, if_neg (by simpa using ‹(l[k].fst == x) = false›)], hb.alloc hb.size _⟩
        case measure => simp [intOf]; omega
    · go_wp2
      go_ret
      refine ⟨ret_int ?_, hb⟩
      rw [HF.out, List.drop_eq_nil_of_le (by have := h.len; omega)]
      rfl

theorem take_snoc {α : Type} (l : List α) (k : Nat) (h : k < l.length) : l.take (k + 1) = l.take k ++ [l[k]] := by
  rw [List.take_succ_eq_append_getElem h]

theorem cutL_snoc (l : List (Int × Int)) (p : Int × Int) (x : Int) : cutL (l ++ [p]) x = if p.1 = x then cutL l x else cutL l x ++ [p] := by
  unfold cutL; rw [List.filter_append]; by_cases h : p.1 = x <;> simp [h]

theorem betweenL_snoc (l : List (Int × Int)) (p : Int × Int) (a b : Int) : betweenL (l ++ [p]) a b = if a ≤ p.1 ∧ p.1 ≤ b then betweenL l a b ++ [p] else betweenL l a b := by
  unfold betweenL; rw [List.filter_append]; by_cases h : a ≤ p.1 ∧ p.1 ≤ b <;> simp [h]

set_option maxHeartbeats 1000000 in
theorem lawCut_walk (A : Option Addr) (n c : Nat) (l : List (Int × Int)) (x : Int) (w : World) (h : Lf w A n l) (hn : n ≤ 100000) :
    Calls Try.prog 21 #[.slice A n c, .int .i64 x] w fun e w' => ∃ v, e = .returned v ∧ Own w w' v (cutL l x) := by
  go_enter Try.func21, Try.ntmps21
  go_wp2
  go_loopw [5, 10] (fun v i wr => ∃ k : Nat, k ≤ n ∧ i = .int .i64 k ∧ Own w wr v (cutL (l.take k) x)) (fun _ i _ => n - (intOf i).toNat)
  case atStart => exact ⟨0, Nat.zero_le _, rfl, Own.nil _⟩
  case round =>
    obtain ⟨k, hk, rfl, hown⟩ := hrel
    by_cases hlt : k < n
    · have hll : k < l.length := by rw [← h.len]; exact hlt
      obtain ⟨b, off, rfl, hbl, c1, c2⟩ := h.at_ hll
      have hb := hown.below
      have d1 := (hb.cell (p := ⟨b, off + k * 2, none⟩) hbl).trans c1
      have d2 := (hb.cell (p := ⟨b, off + k * 2 + 1, none⟩) hbl).trans c2
      have hbl' : b < wr.heap.size := by have := hb.size; omega
      have hlen : (cutL (l.take k) x).length ≤ 100000 := by have := cutL_length (l.take k) x; rw [List.length_take] at this; omega
      have HS := Lib.hid (cutL_snoc (l.take k) l[k] x)
      have HT := Lib.hid (take_snoc l k hll)
      generalize l[k] = p at *
      generalize cutL (l.take k) x = out at *
      go_wp2_with (at_builtin; refine push rfl (.tmp 18) (.tmp 20) rfl _ out rfl ((hown.alloc _).alloc _) (wr.heap.size + 1) p rfl (by simp) (by simp) hlen ?_; intro v' w' hown' hkeep hsz)
      · go_roundw
        case rel => exact ⟨k + 1, by omega, by go_num, by rw [HT.out, HS.out, if_neg (by simpa using ‹(p.fst != x) = true›)]; exact hown'⟩
        case measure => simp [intOf]; omega
      · go_roundw
        case rel => exact ⟨k + 1, by omega, by go_num, by rw [HT.out, HS.out, if_pos (by simpa using ‹(p.fst != x) = false›)]; exact hown.alloc _⟩
        case measure => simp [intOf]; omega
    · go_wp2
      go_ret
      refine ⟨_, rfl, ?_⟩
      rw [List.take_of_length_le (by have := h.len; omega)] at hown
      exact hown

theorem betweenL_length (l : List (Int × Int)) (a b : Int) : (betweenL l a b).length ≤ l.length := List.length_filter_le _ _

set_option maxHeartbeats 1000000 in
theorem lawBetween_walk (A : Option Addr) (n c : Nat) (l : List (Int × Int)) (x y : Int) (w : World) (h : Lf w A n l) (hn : n ≤ 100000) :
    Calls Try.prog 28 #[.slice A n c, .int .i64 x, .int .i64 y] w fun e w' => ∃ v, e = .returned v ∧ Own w w' v (betweenL l x y) := by
  go_enter Try.func28, Try.ntmps28
  go_wp2
  go_loopw [7, 12] (fun v i wr => ∃ k : Nat, k ≤ n ∧ i = .int .i64 k ∧ Own w wr v (betweenL (l.take k) x y)) (fun _ i _ => n - (intOf i).toNat)
  case atStart => exact ⟨0, Nat.zero_le _, rfl, Own.nil _⟩
  case round =>
    obtain ⟨k, hk, rfl, hown⟩ := hrel
    by_cases hlt : k < n
    · have hll : k < l.length := by rw [← h.len]; exact hlt
      obtain ⟨b, off, rfl, hbl, c1, c2⟩ := h.at_ hll
      have hb := hown.below
      have d1 := (hb.cell (p := ⟨b, off + k * 2, none⟩) hbl).trans c1
      have d2 := (hb.cell (p := ⟨b, off + k * 2 + 1, none⟩) hbl).trans c2
      have hbl' : b < wr.heap.size := by have := hb.size; omega
      have hlen : (betweenL (l.take k) x y).length ≤ 100000 := by have := betweenL_length (l.take k) x y; rw [List.length_take] at this; omega
      have HS := Lib.hid (betweenL_snoc (l.take k) l[k] x y)
      have HT := Lib.hid (take_snoc l k hll)
      generalize l[k] = p at *
      generalize betweenL (l.take k) x y = out at *
      by_cases t1 : x ≤ p.1
      · by_cases t2 : p.1 ≤ y
        · go_wp2_with (at_builtin; refine push rfl (.tmp 26) (.tmp 28) rfl _ out rfl ((hown.alloc _).alloc _) (wr.heap.size + 1) p rfl (by simp) (by simp) hlen ?_; intro v' w' hown' hkeep hsz)
          go_roundw
          case rel => exact ⟨k + 1, by omega, by go_num, by rw [HT.out, HS.out, if_pos ⟨t1, t2⟩]; exact hown'⟩
          case measure => simp [intOf]; omega
        · go_wp2
          go_roundw
          case rel => exact ⟨k + 1, by omega, by go_num, by rw [HT.out, HS.out, if_neg (fun e => t2 e.2)]; exact hown.alloc _⟩
          case measure => simp [intOf]; omega
      · go_wp2
        go_roundw
        case rel => exact ⟨k + 1, by omega, by go_num, by rw [HT.out, HS.out, if_neg (fun e => t1 e.1)]; exact hown.alloc _⟩
        case measure => simp [intOf]; omega
    · go_wp2
      go_ret
      refine ⟨_, rfl, ?_⟩
      rw [List.take_of_length_le (by have := h.len; omega)] at hown
      exact hown

set_option maxHeartbeats 1000000 in
theorem between_walk (A : Option Addr) (n c : Nat) (l : List (Int × Int)) (x y : Int) (w : World) (h : Lf w A n l) (hn : n ≤ 100000) :
    Calls Try.prog 27 #[.slice A n c, .int .i64 x, .int .i64 y] w fun e w' => ∃ v, e = .returned v ∧ Own w w' v (betweenL l x y) := by
  go_enter Try.func27, Try.ntmps27
  go_wp2
  go_loopw [7, 12] (fun v i wr => ∃ k : Nat, k ≤ n ∧ i = .int .i64 k ∧ Own w wr v (betweenL (l.take k) x y)) (fun _ i _ => n - (intOf i).toNat)
  case atStart => exact ⟨0, Nat.zero_le _, rfl, Own.nil _⟩
  case round =>
    obtain ⟨k, hk, rfl, hown⟩ := hrel
    by_cases hlt : k < n
    · have hll : k < l.length := by rw [← h.len]; exact hlt
      obtain ⟨b, off, rfl, hbl, c1, c2⟩ := h.at_ hll
      have hb := hown.below
      have d1 := (hb.cell (p := ⟨b, off + k * 2, none⟩) hbl).trans c1
      have d2 := (hb.cell (p := ⟨b, off + k * 2 + 1, none⟩) hbl).trans c2
      have hbl' : b < wr.heap.size := by have := hb.size; omega
      have hlen : (betweenL (l.take k) x y).length ≤ 100000 := by have := betweenL_length (l.take k) x y; rw [List.length_take] at this; omega
      have HS := Lib.hid (betweenL_snoc (l.take k) l[k] x y)
      have HT := Lib.hid (take_snoc l k hll)
      generalize l[k] = p at *
      generalize betweenL (l.take k) x y = out at *
      by_cases t1 : x ≤ p.1
      · by_cases t2 : p.1 ≤ y
        · go_wp2_with (at_builtin; refine push rfl (.tmp 26) (.tmp 28) rfl _ out rfl ((hown.alloc _).alloc _) (wr.heap.size + 1) p rfl (by simp) (by simp) hlen ?_; intro v' w' hown' hkeep hsz)
          go_roundw
          case rel => exact ⟨k + 1, by omega, by go_num, by rw [HT.out, HS.out, if_pos ⟨t1, t2⟩]; exact hown'⟩
          case measure => simp [intOf]; omega
        · go_wp2
          go_roundw
          case rel => exact ⟨k + 1, by omega, by go_num, by rw [HT.out, HS.out, if_neg (fun e => t2 e.2)]; exact hown.alloc _⟩
          case measure => simp [intOf]; omega
      · go_wp2
        go_roundw
        case rel => exact ⟨k + 1, by omega, by go_num, by rw [HT.out, HS.out, if_neg (fun e => t1 e.1)]; exact hown.alloc _⟩
        case measure => simp [intOf]; omega
    · go_wp2
      go_ret
      refine ⟨_, rfl, ?_⟩
      rw [List.take_of_length_le (by have := h.len; omega)] at hown
      exact hown

theorem putTo_length (l : List (Int × Int)) (x v : Int) : (putTo l x v).1.length ≤ l.length + 1 := by
  have h := putTo_open l x v []
  unfold putTo
  rw [h]
  split
  · rename_i hlt
    have h2 := List.length_filter_le (fun p => decide (p.1 ≠ x)) (l.drop (lo l x))
    simp only [List.nil_append, List.length_append, List.length_cons, List.length_take, List.length_drop] at *
    omega
  · simp

set_option maxHeartbeats 2000000 in
theorem lawPut_walk (A : Option Addr) (n c : Nat) (l : List (Int × Int)) (x y : Int) (w : World) (h : Lf w A n l) (hn : n ≤ 50000) :
    Calls Try.prog 19 #[.slice A n c, .int .i64 x, .int .i64 y] w fun e w' => ∃ v, e = .returned v ∧ Own w w' v (putL l x y) := by
  go_enter Try.func19, Try.ntmps19
  go_wp2
  go_loopw [7, 8, 13] (fun v d i wr => ∃ k : Nat, k ≤ n ∧ i = .int .i64 k ∧ d = .bool (putTo (l.take k) x y).2 ∧ Own w wr v (putTo (l.take k) x y).1) (fun _ _ i _ => n - (intOf i).toNat)
  case atStart => exact ⟨0, Nat.zero_le _, rfl, rfl, Own.nil _⟩
  case round =>
    obtain ⟨k, hk, rfl, rfl, hown⟩ := hrel
    have hlen : (putTo (l.take k) x y).1.length ≤ 60000 := by have := putTo_length (l.take k) x y; rw [List.length_take] at this; omega
    by_cases hlt : k < n
    · have hll : k < l.length := by rw [← h.len]; exact hlt
      obtain ⟨b, off, rfl, hbl, c1, c2⟩ := h.at_ hll
      have hb := hown.below
      have d1 := (hb.cell (p := ⟨b, off + k * 2, none⟩) hbl).trans c1
      have d2 := (hb.cell (p := ⟨b, off + k * 2 + 1, none⟩) hbl).trans c2
      have hbl' : b < wr.heap.size := by have := hb.size; omega
      have hs : putTo (l.take (k + 1)) x y = putStep x y (putTo (l.take k) x y) l[k] := by rw [take_snoc l k hll]; unfold putTo; rw [List.foldl_append]; rfl
      have HS := Lib.hid hs
      clear hs
      generalize l[k] = p at *
      generalize putTo (l.take k) x y = s at *
      obtain ⟨out, d⟩ := s
      cases d with
      | false =>
        by_cases t1 : x ≤ p.1
        · by_cases t2 : p.1 = x
          · have t2' : (p.1 != x) = false := by simpa using t2
            have e : putStep x y (out, false) p = (out ++ [(x, y)], true) := by simp [putStep, t2]
            have HE := Lib.hid e
            clear e t2
            go_wp2_with (at_builtin; refine push rfl (.tmp 25) (.tmp 29) rfl _ out rfl ((hown.alloc _).alloc _) (wr.heap.size + 1) (x, y) rfl (by simp) (by simp) (by simp at hlen; omega) ?_; intro v' w' hown' hkeep hsz; have e1 := hkeep wr.heap.size 0 hown.size (by simp; omega) (fun e => by have := (hown.block_lt _ e).2; omega); have e2 := hkeep wr.heap.size 1 hown.size (by simp; omega) (fun e => by have := (hown.block_lt _ e).2; omega); simp at e1 e2; clear hkeep)
            go_roundw
            case rel => exact ⟨k + 1, by omega, by go_num, by rw [HS.out, HE.out], by rw [HS.out, HE.out]; exact hown'⟩
            case measure => simp [intOf]; omega
          · have t2' : (p.1 != x) = true := by simpa using t2
            have e : putStep x y (out, false) p = (out ++ [(x, y)] ++ [p], true) := by simp [putStep, t2, t1]
            have HE := Lib.hid e
            clear e t2
            go_wp2_with (first | (at_builtin; refine push rfl (.tmp 25) (.tmp 29) rfl _ out rfl ((hown.alloc _).alloc _) (wr.heap.size + 1) (x, y) rfl (by simp) (by simp) (by simp at hlen; omega) ?_; intro v' w' hown' hkeep hsz; have e1 := hkeep wr.heap.size 0 hown.size (by simp; omega) (fun e => by have := (hown.block_lt _ e).2; omega); have e2 := hkeep wr.heap.size 1 hown.size (by simp; omega) (fun e => by have := (hown.block_lt _ e).2; omega); simp at e1 e2 hsz; clear hkeep) | (at_builtin; refine push rfl (.tmp 35) (.tmp 37) rfl _ (out ++ [(x, y)]) rfl (hown'.alloc _) w'.heap.size p rfl (by simp) (by simp) (by simp at hlen ⊢; omega) ?_; intro v2 w2 hown2 hkeep2 hsz2))
            go_roundw
            case rel => exact ⟨k + 1, by omega, by go_num, by rw [HS.out, HE.out], by rw [HS.out, HE.out]; exact hown2⟩
            case measure => simp [intOf]; omega
        · have t2 : ¬ p.1 = x := by omega
          have t2' : (p.1 != x) = true := by simpa using t2
          have e : putStep x y (out, false) p = (out ++ [p], false) := by simp [putStep, t2, t1]
          have HE := Lib.hid e
          clear e t2
          go_wp2_with (at_builtin; refine push rfl (.tmp 35) (.tmp 37) rfl _ out rfl ((hown.alloc _).alloc _) (wr.heap.size + 1) p rfl (by simp) (by simp) (by simp at hlen; omega) ?_; intro v' w' hown' hkeep hsz)
          go_roundw
          case rel => exact ⟨k + 1, by omega, by go_num, by rw [HS.out, HE.out], by rw [HS.out, HE.out]; exact hown'⟩
          case measure => simp [intOf]; omega
      | true =>
        by_cases t2 : p.1 = x
        · have t2' : (p.1 != x) = false := by simpa using t2
          have e : putStep x y (out, true) p = (out, true) := by simp [putStep, t2]
          have HE := Lib.hid e
          clear e t2
          go_wp2
          go_roundw
          case rel => exact ⟨k + 1, by omega, by go_num, by rw [HS.out, HE.out], by rw [HS.out, HE.out]; exact hown.alloc _⟩
          case measure => simp [intOf]; omega
        · have t2' : (p.1 != x) = true := by simpa using t2
          have e : putStep x y (out, true) p = (out ++ [p], true) := by simp [putStep, t2]
          have HE := Lib.hid e
          clear e t2
          go_wp2_with (at_builtin; refine push rfl (.tmp 35) (.tmp 37) rfl _ out rfl ((hown.alloc _).alloc _) (wr.heap.size + 1) p rfl (by simp) (by simp) (by simp at hlen; omega) ?_; intro v' w' hown' hkeep hsz)
          go_roundw
          case rel => exact ⟨k + 1, by omega, by go_num, by rw [HS.out, HE.out], by rw [HS.out, HE.out]; exact hown'⟩
          case measure => simp [intOf]; omega
    · have hall : l.take k = l := List.take_of_length_le (by have := h.len; omega)
      rw [hall] at hown hlen
      rw [hall]
      clear hall
      have HP : Hid (putL l x y = if (putTo l x y).2 then (putTo l x y).1 else (putTo l x y).1 ++ [(x, y)]) := rfl
      generalize putTo l x y = s at *
      obtain ⟨out, d⟩ := s
      cases d with
      | true =>
        go_wp2
        go_ret
        refine ⟨_, rfl, ?_⟩
        rw [HP.out]
        exact hown
      | false =>
        go_wp2_with (at_builtin; refine push rfl (.tmp 42) (.tmp 46) rfl _ out rfl (hown.alloc _) wr.heap.size (x, y) rfl (by simp) (by simp) (by simp at hlen; omega) ?_; intro v' w' hown' hkeep hsz)
        go_ret
        refine ⟨_, rfl, ?_⟩
        rw [HP.out]
        exact hown'
end Go.Proofs.Ytfpnchnijfhjhaa
