/-
  What the pairs' laws' own Put and Rising return, for every list: rows of pairs of their own. (As in layer 2.)
-/
import Derived.Test.YtpbbkfpapmomhaaNums
import Derived.Test.YtpbbkfpapmomhaaPlain
import Derived.ProofKit
import Derived.OpenShut
import Derived.WalkSpells
import Derived.BigQuiet
import Derived.Deep.QuietTactic
namespace Go.Proofs.Ytpbbkfpapmomhaa
open Go.ChangeShapes Go.WideShapes Go.ChangeAt Go.RowKit
set_option linter.unusedVariables false

theorem ret_int {k : IntKind} {a b : Int} (h : a = b) : Ending.returned (.int k a) = .returned (.int k b) := by rw [h]
theorem ret_bool {a b : Bool} (h : a = b) : Ending.returned (.bool a) = .returned (.bool b) := by rw [h]

theorem Sl.at0 {w : World} {A : Option Addr} {n c : Nat} {zs : List Int} (h : Sl w A n c zs) {k : Nat} (hk : k < n) : ∃ b off, A = some ⟨b, off, none⟩ ∧ b < w.heap.size ∧ w.cell? ⟨b, off + k, none⟩ = some (.int .i64 (zs.getD k 0)) := by
  have hl : k < zs.length := by rw [← h.len]; exact hk
  obtain ⟨b, off, e, hb, hc⟩ := h.at_ hl
  exact ⟨b, off, e, hb, by rw [hc]; simp [List.getD, hl]⟩

theorem putTo_length (l : List (Int × Int)) (x v : Int) : (putTo l x v).1.length ≤ l.length + 1 := by
  have h := putTo_open l x v []
  unfold putTo
  rw [h]
  split
  · rename_i hlt
    have h2 := List.length_filter_le (fun p => decide (p.1 ≠ x)) (l.drop (lo l x))
    simp only [List.nil_append, List.length_append, List.length_cons, List.length_take, List.length_drop] at *
    omega
  · simp

set_option maxHeartbeats 2000000 in
theorem lawPut_walk (A : Option Addr) (n c : Nat) (l : List (Int × Int)) (x y : Int) (w : World) (h : Lf w A n l) (hn : n ≤ 50000) :
    Calls Try.prog 45 #[.slice A n c, .int .i64 x, .int .i64 y] w fun e w' => ∃ v, e = .returned v ∧ Own w w' v (putL l x y) := by
  go_enter Try.func45, Try.ntmps45
  go_wp2
  go_loopw [7, 8, 13] (fun v d i wr => ∃ k : Nat, k ≤ n ∧ i = .int .i64 k ∧ d = .bool (putTo (l.take k) x y).2 ∧ Own w wr v (putTo (l.take k) x y).1) (fun _ _ i _ => n - (intOf i).toNat)
  case atStart => exact ⟨0, Nat.zero_le _, rfl, rfl, Own.nil _⟩
  case round =>
    obtain ⟨k, hk, rfl, rfl, hown⟩ := hrel
    have hlen : (putTo (l.take k) x y).1.length ≤ 60000 := by have := putTo_length (l.take k) x y; rw [List.length_take] at this; omega
    by_cases hlt : k < n
    · have hll : k < l.length := by rw [← h.len]; exact hlt
      obtain ⟨b, off, rfl, hbl, c1, c2⟩ := h.at_ hll
      have hb := hown.below
      have d1 := (hb.cell (p := ⟨b, off + k * 2, none⟩) hbl).trans c1
      have d2 := (hb.cell (p := ⟨b, off + k * 2 + 1, none⟩) hbl).trans c2
      have hbl' : b < wr.heap.size := by have := hb.size; omega
      have hs : putTo (l.take (k + 1)) x y = putStep x y (putTo (l.take k) x y) l[k] := by rw [take_snoc l k hll]; unfold putTo; rw [List.foldl_append]; rfl
      have HS := Lib.hid hs
      clear hs
      generalize l[k] = p at *
      generalize putTo (l.take k) x y = s at *
      obtain ⟨out, d⟩ := s
      cases d with
      | false =>
        by_cases t1 : x ≤ p.1
        · by_cases t2 : p.1 = x
          · have t2' : (p.1 != x) = false := by simpa using t2
            have e : putStep x y (out, false) p = (out ++ [(x, y)], true) := by simp [putStep, t2]
            have HE := Lib.hid e
            clear e t2
            go_wp2_with (at_builtin; refine push rfl (.tmp 25) (.tmp 29) rfl _ out rfl ((hown.alloc _).alloc _) (wr.heap.size + 1) (x, y) rfl (by simp) (by simp) (by simp at hlen; omega) ?_; intro v' w' hown' hkeep hsz; have e1 := hkeep wr.heap.size 0 hown.size (by simp; omega) (fun e => by have := (hown.block_lt _ e).2; omega); have e2 := hkeep wr.heap.size 1 hown.size (by simp; omega) (fun e => by have := (hown.block_lt _ e).2; omega); simp at e1 e2; clear hkeep)
            go_roundw
            case rel => exact ⟨k + 1, by omega, by go_num, by rw [HS.out, HE.out], by rw [HS.out, HE.out]; exact hown'⟩
            case measure => simp [intOf]; omega
          · have t2' : (p.1 != x) = true := by simpa using t2
            have e : putStep x y (out, false) p = (out ++ [(x, y)] ++ [p], true) := by simp [putStep, t2, t1]
            have HE := Lib.hid e
            clear e t2
            go_wp2_with (first | (at_builtin; refine push rfl (.tmp 25) (.tmp 29) rfl _ out rfl ((hown.alloc _).alloc _) (wr.heap.size + 1) (x, y) rfl (by simp) (by simp) (by simp at hlen; omega) ?_; intro v' w' hown' hkeep hsz; have e1 := hkeep wr.heap.size 0 hown.size (by simp; omega) (fun e => by have := (hown.block_lt _ e).2; omega); have e2 := hkeep wr.heap.size 1 hown.size (by simp; omega) (fun e => by have := (hown.block_lt _ e).2; omega); simp at e1 e2 hsz; clear hkeep) | (at_builtin; refine push rfl (.tmp 35) (.tmp 37) rfl _ (out ++ [(x, y)]) rfl (hown'.alloc _) w'.heap.size p rfl (by simp) (by simp) (by simp at hlen ⊢; omega) ?_; intro v2 w2 hown2 hkeep2 hsz2))
            go_roundw
            case rel => exact ⟨k + 1, by omega, by go_num, by rw [HS.out, HE.out], by rw [HS.out, HE.out]; exact hown2⟩
            case measure => simp [intOf]; omega
        · have t2 : ¬ p.1 = x := by omega
          have t2' : (p.1 != x) = true := by simpa using t2
          have e : putStep x y (out, false) p = (out ++ [p], false) := by simp [putStep, t2, t1]
          have HE := Lib.hid e
          clear e t2
          go_wp2_with (at_builtin; refine push rfl (.tmp 35) (.tmp 37) rfl _ out rfl ((hown.alloc _).alloc _) (wr.heap.size + 1) p rfl (by simp) (by simp) (by simp at hlen; omega) ?_; intro v' w' hown' hkeep hsz)
          go_roundw
          case rel => exact ⟨k + 1, by omega, by go_num, by rw [HS.out, HE.out], by rw [HS.out, HE.out]; exact hown'⟩
          case measure => simp [intOf]; omega
      | true =>
        by_cases t2 : p.1 = x
        · have t2' : (p.1 != x) = false := by simpa using t2
          have e : putStep x y (out, true) p = (out, true) := by simp [putStep, t2]
          have HE := Lib.hid e
          clear e t2
          go_wp2
          go_roundw
          case rel => exact ⟨k + 1, by omega, by go_num, by rw [HS.out, HE.out], by rw [HS.out, HE.out]; exact hown.alloc _⟩
          case measure => simp [intOf]; omega
        · have t2' : (p.1 != x) = true := by simpa using t2
          have e : putStep x y (out, true) p = (out ++ [p], true) := by simp [putStep, t2]
          have HE := Lib.hid e
          clear e t2
          go_wp2_with (at_builtin; refine push rfl (.tmp 35) (.tmp 37) rfl _ out rfl ((hown.alloc _).alloc _) (wr.heap.size + 1) p rfl (by simp) (by simp) (by simp at hlen; omega) ?_; intro v' w' hown' hkeep hsz)
          go_roundw
          case rel => exact ⟨k + 1, by omega, by go_num, by rw [HS.out, HE.out], by rw [HS.out, HE.out]; exact hown'⟩
          case measure => simp [intOf]; omega
    · have hall : l.take k = l := List.take_of_length_le (by have := h.len; omega)
      rw [hall] at hown hlen
      rw [hall]
      clear hall
      have HP : Hid (putL l x y = if (putTo l x y).2 then (putTo l x y).1 else (putTo l x y).1 ++ [(x, y)]) := rfl
      generalize putTo l x y = s at *
      obtain ⟨out, d⟩ := s
      cases d with
      | true =>
        go_wp2
        go_ret
        refine ⟨_, rfl, ?_⟩
        rw [HP.out]
        exact hown
      | false =>
        go_wp2_with (at_builtin; refine push rfl (.tmp 42) (.tmp 46) rfl _ out rfl (hown.alloc _) wr.heap.size (x, y) rfl (by simp) (by simp) (by simp at hlen; omega) ?_; intro v' w' hown' hkeep hsz)
        go_ret
        refine ⟨_, rfl, ?_⟩
        rw [HP.out]
        exact hown'

set_option maxHeartbeats 1000000 in
theorem rising_walk (A : Option Addr) (n c : Nat) (zs : List Int) (w : World) (h : Sl w A n c zs) (hn : n ≤ 1000) :
    Calls Try.prog 34 #[.slice A n c] w fun e w' => ∃ v, e = .returned v ∧ Own w w' v (risingL zs) := by
  go_enter Try.func34, Try.ntmps34
  go_wp2
  go_loopw [3, 8] (fun v i wr => ∃ k : Nat, k ≤ n ∧ i = .int .i64 k ∧ Own w wr v (risingTo zs k)) (fun _ i _ => n - (intOf i).toNat)
  case atStart => exact ⟨0, Nat.zero_le _, rfl, Own.nil _⟩
  case round =>
    obtain ⟨k, hk, rfl, hown⟩ := hrel
    by_cases hlt : k < n
    · obtain ⟨b, off, rfl, hbl, c1⟩ := h.at0 hlt
      have hb := hown.below
      have d1 := (hb.cell (p := ⟨b, off + k, none⟩) hbl).trans c1
      have hlen := risingTo_length zs k
      have HS := Lib.hid (risingTo_succ zs k)
      have H1 := Lib.hid hown
      obtain ⟨A', c', rfl, hc', _, hlf⟩ := hown.form
      clear hown
      generalize zs.getD k 0 = z at *
      generalize risingTo zs k = rs at *
      go_wp2_with fail
      refine (lawPut_walk A' rs.length c' rs z ((k : Int) + 100) wr hlf (by omega)).mono ?_
      rintro e w1 ⟨v1, rfl, hown1⟩
      go_wp2
      go_roundw
      case rel => exact ⟨k + 1, by omega, by go_num, by rw [HS.out]; exact hown1.since H1.out.below⟩
      case measure => simp [intOf]; omega
    · obtain rfl : k = n := by omega
      go_wp2
      go_ret
      exact ⟨_, rfl, by unfold risingL; rw [← h.len]; exact hown⟩

end Go.Proofs.Ytpbbkfpapmomhaa
