/-
  What the law's own functions return, for every list of pairs: Same (of equal lists), Rises, keys, Rising. None changes what was there.
-/
import Derived.Test.YtfpnchnijfhjhaaLawFns
namespace Go.Proofs.Ytfpnchnijfhjhaa
open Go.ChangeShapes Go.WideShapes Go.ChangeAt Go.RowKit
set_option linter.unusedVariables false

/-- A slice of n numbers at A reads as the list zs. -/
def Nums (w : World) (A : Option Addr) (n : Nat) (zs : List Int) : Prop :=
  n = zs.length ∧ (zs = [] ∨ ∃ b off, A = some ⟨b, off, none⟩ ∧ ∀ i, i < zs.length → w.cell? ⟨b, off + i, none⟩ = some (.int .i64 (zs.getD i 0)))

theorem Nums.len {w : World} {A : Option Addr} {n : Nat} {zs : List Int} (h : Nums w A n zs) : n = zs.length := h.1
theorem Nums.at_ {w : World} {A : Option Addr} {n : Nat} {zs : List Int} (h : Nums w A n zs) {k : Nat} (hk : k < n) :
    ∃ b off, A = some ⟨b, off, none⟩ ∧ b < w.heap.size ∧ w.cell? ⟨b, off + k, none⟩ = some (.int .i64 (zs.getD k 0)) := by
  have hl := h.1
  rcases h.2 with rfl | ⟨b, off, rfl, hc⟩
  · simp at hl; omega
  · have := hc k (by omega)
    exact ⟨b, off, rfl, World.block_lt_of_cell? w _ this, this⟩
theorem Nums.below {w w' : World} {A : Option Addr} {n : Nat} {zs : List Int} (h : Nums w A n zs) (hb : Below w.heap.size w w') : Nums w' A n zs := by
  refine ⟨h.1, ?_⟩
  rcases h.2 with hn | ⟨b, off, rfl, hc⟩
  · exact .inl hn
  · refine .inr ⟨b, off, rfl, fun i hi => ?_⟩
    have := hc i hi
    rw [hb.cell (World.block_lt_of_cell? w _ this)]
    exact this

/-- A row of numbers that was made since w0. -/
def OwnI (w0 w : World) (v : Value) (zs : List Int) : Prop := w.ownsRow w0.heap.size 2 1 v zs.length (zs.map (Value.int .i64)) ∧ Below w0.heap.size w0 w
theorem OwnI.form {w0 w : World} {v : Value} {zs : List Int} (h : OwnI w0 w v zs) : ∃ A c, v = .slice A zs.length c ∧ zs.length ≤ c ∧ Nums w A zs.length zs := by
  have hl := h.1
  rcases h.1.2 with ⟨rfl, h0⟩ | ⟨g, cap, cur, rfl, _, _, h1, h2, _⟩
  · have e : zs = [] := List.eq_nil_of_length_eq_zero h0
    subst e
    exact ⟨none, 0, rfl, Nat.le_refl _, rfl, .inl rfl⟩
  · refine ⟨_, cap, rfl, h1, rfl, .inr ⟨g, 0, rfl, fun i hi => ?_⟩⟩
    rw [Nat.zero_add, hl.cellAt i (by omega)]
    simp [List.getD, List.getElem?_eq_getElem hi]

/-- 'append(out, z)': a number behind a row of the call's own. -/
theorem pushI {ops : Array Oper} {rest : List Oper} {o : Oper} {a : Act} {Q : Exit → Act → World → Prop} {w0 w : World} (hg : o.guard = none) (s x : Operand) (ho : o.op = .call { callee := .builtin .append, args := #[s, x], argTypes := #[22, 22] })
    (v : Value) (zs : List Int) (hs : a.eval s = v) (hown : OwnI w0 w v zs) (g : Nat) (z : Int) (hx : a.eval x = .slice (some ⟨g, 0, none⟩) 1 1)
    (h1 : w.cell? ⟨g, 0, none⟩ = some (.int .i64 z)) (hlen : zs.length ≤ 100000)
    (h : ∀ v' w', OwnI w0 w' v' (zs ++ [z]) → wpList Try.prog ops Q rest (a.put o.dst v') w') :
    wpList Try.prog ops Q (o :: rest) a w := by
  obtain ⟨i0, hi0, hz0, hz1, hz2⟩ := info_parts int64_info
  refine wpList_append_own _ hg s x _ ho w0.heap.size 2 i0 _ 1 8 Try.underlying22 hi0 hz0 hz1 hz2 rfl (by omega) v zs.length (zs.map (Value.int .i64)) hs hown.1 ⟨g, 0, none⟩ 1 1 [.int .i64 z] hx rfl ?_ ?_ ?_ ?_ hown.2.size ?_
  · intro j u hj
    match j, hj with
    | 0, hj => simp at hj; subst hj; exact h1
  · intro u hu; simp at hu; subst hu; rfl
  · unfold maxLen; omega
  · omega
  · intro v' w' h3 h4 _
    exact h v' w' ⟨by simpa using h3, hown.2.grown h4 hown.2.size fun k hk => (hown.1.lt k hk).1⟩
theorem OwnI.alloc {w0 w : World} {v : Value} {zs : List Int} (h : OwnI w0 w v zs) (o : Obj) : OwnI w0 (w.alloc o) v zs := ⟨h.1.alloc o, h.2.alloc h.2.size o⟩

set_option maxHeartbeats 1000000 in
theorem rising_walk (A : Option Addr) (n c : Nat) (zs : List Int) (w : World) (h : Nums w A n zs) (hn : n ≤ 1000) :
    Calls Try.prog 14 #[.slice A n c] w fun e w' => ∃ v, e = .returned v ∧ Own w w' v (risingL zs) := by
  go_enter Try.func14, Try.ntmps14
  go_wp2
  go_loopw [3, 8] (fun v i wr => ∃ k : Nat, k ≤ n ∧ i = .int .i64 k ∧ Own w wr v (risingTo zs k)) (fun _ i _ => n - (intOf i).toNat)
  case atStart => exact ⟨0, Nat.zero_le _, rfl, Own.nil _⟩
  case round =>
    obtain ⟨k, hk, rfl, hown⟩ := hrel
    by_cases hlt : k < n
    · obtain ⟨b, off, rfl, hbl, c1⟩ := h.at_ hlt
      have hb := hown.below
      have d1 := (hb.cell (p := ⟨b, off + k, none⟩) hbl).trans c1
      have hlen := risingTo_length zs k
      have HS := Lib.hid (risingTo_succ zs k)
      have H1 := Lib.hid hown
      obtain ⟨A', c', rfl, hc', _, hlf⟩ := hown.form
      clear hown
      generalize zs.getD k 0 = z at *
      generalize risingTo zs k = rs at *
      go_wp2_with fail
      refine (lawPut_walk A' rs.length c' rs z ((k : Int) + 100) wr hlf (by omega)).mono ?_
      rintro e w1 ⟨v1, rfl, hown1⟩
      go_wp2
      go_roundw
      case rel => exact ⟨k + 1, by omega, by go_num, by rw [HS.out]; exact hown1.since H1.out.below⟩
      case measure => simp [intOf]; omega
    · obtain rfl : k = n := by omega
      go_wp2
      go_ret
      exact ⟨_, rfl, by unfold risingL; rw [← h.len]; exact hown⟩

set_option maxHeartbeats 1000000 in
theorem keys_walk (A : Option Addr) (n c : Nat) (l : List (Int × Int)) (w : World) (h : Lf w A n l) (hn : n ≤ 1000) :
    Calls Try.prog 26 #[.slice A n c] w fun e w' => ∃ v, e = .returned v ∧ OwnI w w' v (l.map (·.1)) := by
  go_enter Try.func26, Try.ntmps26
  go_wp2
  go_loopw [3, 8] (fun v i wr => ∃ k : Nat, k ≤ n ∧ i = .int .i64 k ∧ OwnI w wr v ((l.take k).map (·.1))) (fun _ i _ => n - (intOf i).toNat)
  case atStart => exact ⟨0, Nat.zero_le _, rfl, World.ownsRow_nil _ _ _ _, Below.refl _ _⟩
  case round =>
    obtain ⟨k, hk, rfl, hown⟩ := hrel
    by_cases hlt : k < n
    · have hll : k < l.length := by rw [← h.len]; exact hlt
      obtain ⟨b, off, rfl, hbl, c1, c2⟩ := h.at_ hll
      have hb := hown.2
      have hsz0 := hb.size
      have d1 := (hb.cell (p := ⟨b, off + k * 2, none⟩) hbl).trans c1
      have d2 := (hb.cell (p := ⟨b, off + k * 2 + 1, none⟩) hbl).trans c2
      have hbl' : b < wr.heap.size := by omega
      have hlen : ((l.take k).map (·.1)).length ≤ 1000 := by simp; omega
      have HS : Hid ((l.take (k + 1)).map (·.1) = (l.take k).map (·.1) ++ [l[k].1]) := by show _ = _; rw [take_snoc l k hll, List.map_append]; rfl
      have HO := Lib.hid hown
      clear hown
      generalize l[k] = p at *
      generalize (l.take k).map (·.1) = out at *
      go_wp2_with (at_builtin; refine pushI rfl (.tmp 12) (.tmp 15) rfl _ out rfl ((HO.out.alloc _).alloc _) (wr.heap.size + 1) p.1 rfl (by simp) (by omega) ?_; intro v' w' hown')
      go_roundw
      case rel => exact ⟨k + 1, by omega, by go_num, by rw [HS.out]; exact hown'⟩
      case measure => simp [intOf]; omega
    · go_wp2
      go_ret
      refine ⟨_, rfl, ?_⟩
      rw [List.take_of_length_le (by have := h.len; omega)] at hown
      exact hown

set_option maxHeartbeats 1000000 in
theorem same_walk (A B : Option Addr) (n c d : Nat) (l : List (Int × Int)) (w : World) (h : Lf w A n l) (h' : Lf w B n l) (hn : n ≤ 100000) :
    Calls Try.prog 18 #[.slice A n c, .slice B n d] w fun e w' => e = .returned (.bool true) ∧ Below w.heap.size w w' := by
  go_enter Try.func18, Try.ntmps18
  go_wp2
  go_loopw [13] (fun i wr => ∃ k : Nat, k ≤ n ∧ i = .int .i64 k ∧ Below w.heap.size w wr) (fun i _ => n - (intOf i).toNat)
  case atStart => exact ⟨0, Nat.zero_le _, rfl, Below.refl _ _⟩
  case round =>
    obtain ⟨k, hk, rfl, hb⟩ := hrel
    by_cases hlt : k < n
    · have hll : k < l.length := by rw [← h.len]; exact hlt
      obtain ⟨b, off, rfl, hbl, c1, c2⟩ := h.at_ hll
      obtain ⟨b', off', rfl, hbl', c1', c2'⟩ := h'.at_ hll
      have d1 := (hb.cell (p := ⟨b, off + k * 2, none⟩) hbl).trans c1
      have d2 := (hb.cell (p := ⟨b, off + k * 2 + 1, none⟩) hbl).trans c2
      have d1' := (hb.cell (p := ⟨b', off' + k * 2, none⟩) hbl').trans c1'
      have d2' := (hb.cell (p := ⟨b', off' + k * 2 + 1, none⟩) hbl').trans c2'
      have hk0 : (0 : Int) ≤ (k : Int) := by omega
      have hk1 : (k : Int) < (n : Int) := by omega
      clear h h' c1 c2 c1' c2'
      generalize l[k] = p at *
      go_wp2
      go_quiet (fail)
      go_wp2
      go_roundw
      case rel => exact ⟨k + 1, by omega, by go_num, below_drewN hb _⟩
      case measure => simp [intOf]; omega
    · go_wp2
      go_ret
      exact ⟨rfl, hb⟩

/-- Do keys rise? -/
def ascB (l : List (Int × Int)) : Bool := decide (l.Pairwise fun a b => a.1 < b.1)
theorem ascB_true {l : List (Int × Int)} (h : Asc l) : ascB l = true := by unfold ascB; exact decide_eq_true h
theorem ascB_pairs {l : List (Int × Int)} (h : ∀ j i (_ : j < i) (hi : i < l.length), (l[j]'(by omega)).1 < l[i].1) : ascB l = true :=
  ascB_true (List.pairwise_iff_getElem.2 fun j i hj hi hji => h j i hji hi)
theorem ascB_not {l : List (Int × Int)} (j i : Nat) (hji : j < i) (hi : i < l.length) (h : l[i].1 ≤ (l[j]'(by omega)).1) : ascB l = false := by
  unfold ascB
  refine decide_eq_false fun ha => ?_
  have := List.pairwise_iff_getElem.1 ha j i (by omega) hi hji
  omega

set_option maxHeartbeats 1000000 in
theorem rises_walk (A : Option Addr) (n c : Nat) (l : List (Int × Int)) (w : World) (h : Lf w A n l) (hn : n ≤ 100000) :
    Calls Try.prog 24 #[.slice A n c] w fun e w' => e = .returned (.bool (ascB l)) ∧ Below w.heap.size w w' := by
  go_enter Try.func24, Try.ntmps24
  go_wp2
  go_loopw [3] (fun i wr => ∃ m : Nat, m ≤ n ∧ i = .int .i64 ((m : Int) + 1) ∧ Hid (∀ j (_ : j < m) (hj : j + 1 < l.length), (l[j]'(by omega)).1 < l[j + 1].1) ∧ Below w.heap.size w wr) (fun i _ => n + 1 - (intOf i).toNat)
  case atStart => exact ⟨0, Nat.zero_le _, rfl, fun j hj => absurd hj (by omega), Below.refl _ _⟩
  case round =>
    obtain ⟨m, hm, rfl, hf, hb⟩ := hrel
    by_cases hlt : m + 1 < n
    · have hll : m + 1 < l.length := by rw [← h.len]; exact hlt
      obtain ⟨b, off, rfl, hbl, c1, c2⟩ := h.at_ hll
      obtain ⟨b', off', e, hbl', c1', c2'⟩ := h.at_ (k := m) (by omega)
      injection e with e
      injection e with e1 e2
      subst e1 e2
      have d1 := (hb.cell (p := ⟨b, off + (m + 1) * 2, none⟩) hbl).trans c1
      have d1' := (hb.cell (p := ⟨b, off + m * 2, none⟩) hbl).trans c1'
      have hk0 : (0 : Int) ≤ (m : Int) + 1 := by omega
      have hk1 : (m : Int) + 1 < (n : Int) := by omega
      have hk2 : (m : Int) < (n : Int) := by omega
      have HN := Lib.hid (fun (t : l[m + 1].1 ≤ l[m].1) => ascB_not m (m + 1) (Nat.lt_succ_self m) hll t)
      have HF : Hid (l[m].1 < l[m + 1].1 → ∀ j (_ : j < m + 1) (hj : j + 1 < l.length), (l[j]'(by omega)).1 < l[j + 1].1) := by
        intro t j hj hj'
        by_cases hjm : j = m
        · subst hjm; exact t
        · exact hf.out j (by omega) hj'
      clear c1 c2 c1' c2' hbl' hf
      generalize l[m] = p at *
      generalize l[m + 1] = q at *
      by_cases t : q.1 ≤ p.1
      · go_wp2
        go_quiet (fail)
        go_wp2
        go_ret
        exact ⟨ret_bool (HN.out t).symm, below_drewN hb _⟩
      · go_wp2
        go_quiet (fail)
        go_wp2
        go_roundw
        case rel => exact ⟨m + 1, by omega, by go_num, HF.out (by omega), below_drewN hb _⟩
        case measure => simp [intOf]; omega
    · have hlt' : (n : Int) ≤ (m : Int) + 1 := by omega
      have HT : Hid (ascB l = true) := ascB_true ((asc_iff l).2 fun i hi => hf.out i (by have := h.len; omega) hi)
      clear hf
      go_wp2
      go_ret
      exact ⟨ret_bool HT.out.symm, hb⟩

set_option maxHeartbeats 2000000 in
theorem lawRises_walk (A : Option Addr) (n c : Nat) (l : List (Int × Int)) (w : World) (h : Lf w A n l) (hn : n ≤ 100000) :
    Calls Try.prog 25 #[.slice A n c] w fun e w' => e = .returned (.bool (ascB l)) ∧ Below w.heap.size w w' := by
  go_enter Try.func25, Try.ntmps25
  go_wp2
  go_loopw [7] (fun i wr => ∃ m : Nat, m ≤ n ∧ i = .int .i64 (m : Int) ∧ Hid (∀ j i (_ : j < i) (_ : i < m) (hi : i < l.length), (l[j]'(by omega)).1 < l[i].1) ∧ Below w.heap.size w wr) (fun i _ => n - (intOf i).toNat)
  case atStart => exact ⟨0, Nat.zero_le _, rfl, fun j i _ hj => absurd hj (by omega), Below.refl _ _⟩
  case round =>
    obtain ⟨m, hm, rfl, hf, hb⟩ := hrel
    by_cases hlt : m < n
    · have hll : m < l.length := by rw [← h.len]; exact hlt
      go_wp2
      go_loopw [11] (fun i w2 => ∃ k : Nat, k ≤ m ∧ i = .int .i64 (k : Int) ∧ Hid (∀ j (hj : j < k) (hk : k ≤ m), (l[j]'(by omega)).1 < l[m].1) ∧ Below w.heap.size w w2) (fun i _ => m - (intOf i).toNat)
      case atStart => exact ⟨0, Nat.zero_le _, rfl, fun j hj => absurd hj (by omega), hb⟩
      case round =>
        obtain ⟨k, hk, rfl, hg, hb2⟩ := hrel
        by_cases hkm : k < m
        · obtain ⟨b, off, rfl, hbl, c1, c2⟩ := h.at_ hll
          obtain ⟨b', off', e, hbl', c1', c2'⟩ := h.at_ (k := k) (by omega)
          injection e with e
          injection e with e1 e2
          subst e1 e2
          have d1 := (hb2.cell (p := ⟨b, off + m * 2, none⟩) hbl).trans c1
          have d1' := (hb2.cell (p := ⟨b, off + k * 2, none⟩) hbl).trans c1'
          have hk0 : (0 : Int) ≤ (m : Int) := by omega
          have hk1 : (m : Int) < (n : Int) := by omega
          have hk2 : (k : Int) < (n : Int) := by omega
          have HN := Lib.hid (fun (t : l[m].1 ≤ l[k].1) => ascB_not k m hkm hll t)
          have HF : Hid (l[k].1 < l[m].1 → ∀ j (hj : j < k + 1) (hk : k + 1 ≤ m), (l[j]'(by omega)).1 < l[m].1) := by
            intro t j hj hk'
            by_cases hjk : j = k
            · subst hjk; exact t
            · exact hg.out j (by omega) (by omega)
          clear c1 c2 c1' c2' hbl' hf hg
          generalize l[k] = p at *
          generalize l[m] = q at *
          by_cases t : q.1 ≤ p.1
          · go_wp2
            go_quiet (fail)
            go_wp2
            go_ret
            exact ⟨ret_bool (HN.out t).symm, below_drewN hb2 _⟩
          · go_wp2
            go_quiet (fail)
            go_wp2
            go_roundw
            case rel => exact ⟨k + 1, by omega, by go_num, HF.out (by omega), below_drewN hb2 _⟩
            case measure => simp [intOf]; omega
        · have HF : Hid (∀ j i (_ : j < i) (_ : i < m + 1) (hi : i < l.length), (l[j]'(by omega)).1 < l[i].1) := by
            intro j i hji him hi
            by_cases e : i = m
            · subst e; exact hg.out j (by omega) (by omega)
            · exact hf.out j i hji (by omega) hi
          clear hf hg
          go_wp2
          go_roundw
          case rel => exact ⟨m + 1, by omega, by go_num, HF, hb2⟩
          case measure => simp [intOf]; omega
    · have HT : Hid (ascB l = true) := ascB_pairs fun j i hji hi => hf.out j i hji (by have := h.len; omega) hi
      clear hf
      go_wp2
      go_ret
      exact ⟨ret_bool HT.out.symm, hb⟩
end Go.Proofs.Ytfpnchnijfhjhaa
