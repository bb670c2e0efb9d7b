/-
  What the law's own Right, in, short, Way, Same, Copy return. None changes what was there.
-/
import Derived.Test.YtpbbkfpapmomhaaHalves3
namespace Go.Proofs.Ytpbbkfpapmomhaa
open Go.ChangeShapes Go.WideShapes Go.ChangeAt Go.RowKit
set_option linter.unusedVariables false
set_option linter.unusedSimpArgs false

theorem fitsB_iff (n m : Nat) : fitsB n m = true ↔ n + 1 = m := by simp [fitsB]; omega
theorem fitsB_turn (n m : Nat) : ((m : Int) - 1 == (n : Int)) = fitsB n m := by rw [Bool.eq_iff_iff]; simp [fitsB]; omega

set_option maxHeartbeats 400000 in
theorem right_walk (A B : Option Addr) (n c m d : Nat) (w : World) (hn : n ≤ 100000) (hm : m ≤ 100000) :
    Calls Try.prog 23 #[inn A n c B m d] w fun e w' => e = .returned (.bool (fitsB n m)) ∧ Below w.heap.size w w' := by
  go_enter Try.func23, Try.ntmps23
  go_wp2
  go_ret
  exact ⟨ret_bool (fitsB_turn n m), (Below.refl _ w).alloc (Nat.le_refl _) _⟩

set_option maxHeartbeats 400000 in
theorem in_walk (A B : Option Addr) (n c m d : Nat) (i : Int) (w : World) (hn : n ≤ 100000) (hm : m ≤ 100000) :
    Calls Try.prog 20 #[inn A n c B m d, .int .i64 i] w fun e w' => e = .returned (.bool (fitsB n m && hasB m i)) ∧ Below w.heap.size w w' := by
  have hb0 := below_new w (.cells #[.slice A n c, .slice B m d] 26)
  cases hf : fitsB n m with
  | false =>
    have HF := Lib.hid hf
    clear hf
    go_enter Try.func20, Try.ntmps20
    go_wp2_with fail
    refine (right_walk A B n c m d _ hn hm).mono ?_
    rintro e w1 ⟨rfl, hb1⟩
    rw [HF.out]
    go_wp2
    go_ret
    exact ⟨rfl, hb0.trans (hb1.mono (by simp))⟩
  | true =>
    have HF := Lib.hid hf
    clear hf
    by_cases h0 : 0 ≤ i
    · go_enter Try.func20, Try.ntmps20
      go_wp2_with fail
      refine (right_walk A B n c m d _ hn hm).mono ?_
      rintro e w1 ⟨rfl, hb1⟩
      rw [HF.out]
      have k1 := hb1.cell (p := ⟨w.heap.size, 1, none⟩) (by simp)
      simp at k1
      go_wp2
      go_ret
      refine ⟨ret_bool ?_, hb0.trans (hb1.mono (by simp))⟩
      simp [hasB, h0]
    · have h1 : decide (0 ≤ i) = false := by simp; omega
      go_enter Try.func20, Try.ntmps20
      go_wp2_with fail
      refine (right_walk A B n c m d _ hn hm).mono ?_
      rintro e w1 ⟨rfl, hb1⟩
      rw [HF.out]
      go_wp2
      go_ret
      refine ⟨ret_bool ?_, hb0.trans (hb1.mono (by simp))⟩
      simp [hasB]; omega

/-- Inners that lie one behind the other in block g. -/
abbrev PartI := Option Addr × Nat × Nat × Option Addr × Nat × Nat
def fewB (p : PartI) : Bool := decide (p.2.1 ≤ 40 ∧ p.2.2.2.2.1 ≤ 40)
def PtsI (w : World) (g : Nat) (ps : List PartI) : Prop := ∀ j p, ps[j]? = some p → w.cell? ⟨g, j * 2, none⟩ = some (.slice p.1 p.2.1 p.2.2.1) ∧ w.cell? ⟨g, j * 2 + 1, none⟩ = some (.slice p.2.2.2.1 p.2.2.2.2.1 p.2.2.2.2.2)

set_option maxHeartbeats 1000000 in
theorem short_walk (g m c : Nat) (ps : List PartI) (w : World) (h : PtsI w g ps) (hm : ps.length = m) (hm2 : m ≤ 1000) :
    Calls Try.prog 18 #[.slice (some ⟨g, 0, none⟩) m c] w fun e w' => e = .returned (.bool (ps.all fewB)) ∧ Below w.heap.size w w' := by
  have HM := Lib.hid hm
  clear hm
  go_enter Try.func18, Try.ntmps18
  go_wp2
  go_loopw [7] (fun i wr => ∃ k : Nat, k ≤ m ∧ i = .int .i64 k ∧ Hid (ps.all fewB = (ps.drop k).all fewB) ∧ Below w.heap.size w wr) (fun i _ => m - (intOf i).toNat)
  case atStart => exact ⟨0, Nat.zero_le _, rfl, rfl, Below.refl _ _⟩
  case round =>
    obtain ⟨k, hk, rfl, hI, hb⟩ := hrel
    by_cases hlt : k < m
    · have hkl : k < ps.length := by have := HM.out; omega
      obtain ⟨h1, h2⟩ := h k _ (List.getElem?_eq_getElem hkl)
      have hg1 : g < w.heap.size := World.block_lt_of_cell? w _ h1
      have d1 := (hb.cell (p := ⟨g, k * 2, none⟩) hg1).trans h1
      have d2 := (hb.cell (p := ⟨g, k * 2 + 1, none⟩) hg1).trans h2
      have hbl : g < wr.heap.size := Nat.lt_of_lt_of_le hg1 hb.size
      have HD : Hid ((ps.drop k).all fewB = (fewB ps[k] && (ps.drop (k + 1)).all fewB)) := by show _ = _; rw [List.drop_eq_getElem_cons hkl, List.all_cons]
      clear h1 h2
      generalize ps[k] = p at *
      obtain ⟨A, n, cc, B, mm, dd⟩ := p
      simp only at d1 d2
      by_cases t1 : n ≤ 40
      · have t1' : ¬ ((40 : Int) < (n : Int)) := by omega
        by_cases t2 : mm ≤ 40
        · have t2' : ¬ ((40 : Int) < (mm : Int)) := by omega
          have HE : Hid (fewB (A, n, cc, B, mm, dd) = true) := by show _ = _; simp [fewB]; omega
          go_wp2
          go_roundw
          case rel => exact ⟨k + 1, by omega, by go_num, show _ = _ by rw [hI.out, HD.out, HE.out, Bool.true_and], hb.alloc hb.size _⟩
          case measure => simp [intOf]; omega
        · have t2' : (40 : Int) < (mm : Int) := by omega
          have HE : Hid (fewB (A, n, cc, B, mm, dd) = false) := by show _ = _; simp [fewB]; omega
          go_wp2
          go_ret
          exact ⟨ret_bool (by rw [hI.out, HD.out, HE.out, Bool.false_and]), hb.alloc hb.size _⟩
      · have t1' : (40 : Int) < (n : Int) := by omega
        have HE : Hid (fewB (A, n, cc, B, mm, dd) = false) := by show _ = _; simp [fewB]; omega
        go_wp2
        go_ret
        exact ⟨ret_bool (by rw [hI.out, HD.out, HE.out, Bool.false_and]), hb.alloc hb.size _⟩
    · have HE : Hid (ps.all fewB = true) := by show _ = _; rw [hI.out, List.drop_eq_nil_of_le (by have := HM.out; omega)]; rfl
      go_wp2
      go_ret
      exact ⟨ret_bool HE.out.symm, hb⟩

/-- How many keys aren't above one. -/
def wayL (ks : List Int) (x : Int) : Nat := (ks.filter fun k => decide (k ≤ x)).length
theorem wayL_snoc (l : List Int) (z x : Int) : wayL (l ++ [z]) x = wayL l x + if z ≤ x then 1 else 0 := by
  unfold wayL; rw [List.filter_append]; by_cases h : z ≤ x <;> simp [h]
theorem wayL_le (l : List Int) (x : Int) : wayL l x ≤ l.length := List.length_filter_le _ _

set_option maxHeartbeats 1000000 in
theorem lawWay_walk (A B : Option Addr) (n c m d : Nat) (ks : List Int) (x : Int) (w : World) (h : Sl w A n c ks) (hn : n ≤ 1000) :
    Calls Try.prog 17 #[inn A n c B m d, .int .i64 x] w fun e w' => e = .returned (.int .i64 (wayL ks x : Nat)) ∧ Below w.heap.size w w' := by
  have hb0 := below_new w (.cells #[.slice A n c, .slice B m d] 26)
  go_enter Try.func17, Try.ntmps17
  go_wp2
  go_loop [5, 11] (fun s i => ∃ k : Nat, k ≤ n ∧ i = .int .i64 k ∧ s = .int .i64 (wayL (ks.take k) x : Nat)) (fun _ i => n - (intOf i).toNat)
  case atStart => exact ⟨0, Nat.zero_le _, rfl, rfl⟩
  case round =>
    obtain ⟨k, hk, rfl, rfl⟩ := hrel
    by_cases hlt : k < n
    · have hll : k < ks.length := by rw [← h.len]; exact hlt
      obtain ⟨b, off, rfl, hbl, c1⟩ := h.at_ hll
      have d1 := (hb0.cell (p := ⟨b, off + k, none⟩) hbl).trans c1
      have HS : Hid (wayL (ks.take (k + 1)) x = wayL (ks.take k) x + if ks[k] ≤ x then 1 else 0) := by show _ = _; rw [take_snoc ks k hll, wayL_snoc]
      have hle := wayL_le (ks.take k) x
      rw [List.length_take] at hle
      clear c1
      generalize ks[k] = z at *
      generalize wayL (ks.take k) x = s at *
      by_cases t : z ≤ x
      · go_wp2
        go_round
        case rel => exact ⟨k + 1, by omega, by go_num, by rw [HS.out, if_pos t]; go_num⟩
        case measure => simp [intOf]; omega
      · go_wp2
        go_round
        case rel => exact ⟨k + 1, by omega, by go_num, by rw [HS.out, if_neg t]; rfl⟩
        case measure => simp [intOf]; omega
    · have hall : ks.take k = ks := List.take_of_length_le (by have := h.len; omega)
      rw [hall]
      go_wp2
      go_ret
      exact ⟨rfl, hb0⟩

theorem boxedS (w : World) (x y x' y' : Value) : ∃ (W : World) (b : Nat), (w.alloc (.cells #[x, y] 26)).alloc (.cells #[x', y'] 26) = W ∧ w.heap.size + 1 = b ∧ Below w.heap.size w W ∧ Box W w.heap.size x y ∧ Box W b x' y' :=
  ⟨_, _, rfl, rfl, ((Below.refl _ w).alloc (Nat.le_refl _) _).alloc (by simp) _, (Box.new w rfl x y _).below (below_new _ _), Box.new _ (by simp) x' y' _⟩

set_option maxHeartbeats 1000000 in
theorem lawSame_walk (A B A' B' : Option Addr) (n c m d c' d' : Nat) (ks ws : List Int) (w : World) (h1 : Sl w A n c ks) (h2 : Sl w B m d ws) (h3 : Sl w A' n c' ks) (h4 : Sl w B' m d' ws) (hn : n ≤ 1000) (hm : m ≤ 1000) :
    Calls Try.prog 21 #[inn A n c B m d, inn A' n c' B' m d'] w fun e w' => e = .returned (.bool true) ∧ Below w.heap.size w w' := by
  go_enter Try.func21, Try.ntmps21
  go_wp2
  obtain ⟨W, b, hW, hb, hb0, HN, HO⟩ := boxedS w (.slice A n c) (.slice B m d) (.slice A' n c') (.slice B' m d')
  rw [hW, hb]
  clear hW hb
  obtain ⟨c0, c1⟩ := id HN
  obtain ⟨c2, c3⟩ := id HO
  have i1 := h1.below hb0
  have i2 := h2.below hb0
  have i3 := h3.below hb0
  have i4 := h4.below hb0
  clear h1 h2 h3 h4
  go_loopw [26] (fun i wr => ∃ k q : Nat, k ≤ n ∧ i = .int .i64 k ∧ wr = W.drewN q) (fun i _ => n - (intOf i).toNat)
  case atStart => exact ⟨0, 0, Nat.zero_le _, rfl, rfl⟩
  case round =>
    obtain ⟨k, q, hk, rfl, rfl⟩ := hrel
    by_cases hlt : k < n
    · have hll : k < ks.length := by rw [← i1.len]; exact hlt
      obtain ⟨g, off, rfl, hbl, d1⟩ := i1.at_ hll
      obtain ⟨g', off', rfl, hbl', d2⟩ := i3.at_ hll
      have hk0 : (0 : Int) ≤ (k : Int) := by omega
      have hk1 : (k : Int) < (n : Int) := by omega
      clear i1 i2 i3 i4 HN HO
      generalize ks[k] = z at *
      go_wp2
      go_quiet (fail)
      go_wp2
      go_roundw
      case rel => exact ⟨k + 1, _, by omega, by go_num, rfl⟩
      case measure => simp [intOf]; omega
    · go_wp2
      go_loopw [44] (fun i wr => ∃ k q : Nat, k ≤ m ∧ i = .int .i64 k ∧ wr = W.drewN q) (fun i _ => m - (intOf i).toNat)
      case atStart => exact ⟨0, q, Nat.zero_le _, rfl, rfl⟩
      case round =>
        clear hk hlt
        obtain ⟨k, q, hk, rfl, rfl⟩ := hrel
        by_cases hlt : k < m
        · have hll : k < ws.length := by rw [← i2.len]; exact hlt
          obtain ⟨g, off, rfl, hbl, d1⟩ := i2.at_ hll
          obtain ⟨g', off', rfl, hbl', d2⟩ := i4.at_ hll
          have hk0 : (0 : Int) ≤ (k : Int) := by omega
          have hk1 : (k : Int) < (m : Int) := by omega
          clear i1 i2 i3 i4 HN HO
          generalize ws[k] = z at *
          go_wp2
          go_quiet (fail)
          go_wp2
          go_roundw
          case rel => exact ⟨k + 1, _, by omega, by go_num, rfl⟩
          case measure => simp [intOf]; omega
        · go_wp2
          go_ret
          exact ⟨rfl, below_drewN hb0 _⟩
end Go.Proofs.Ytpbbkfpapmomhaa
