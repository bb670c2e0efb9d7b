/-
  The library's slices.Grow (of no slice) and slices.Concat, over numbers and over references: a row of its own, of all the parts, one behind the other.
-/
import Derived.Test.YtmnbdhngadjmiaaRef8
import Derived.Handy
namespace Go.Proofs.Ytmnbdhngadjmiaa
open Go.ChangeShapes Go.WideShapes Go.ChangeAt Go.RowKit
set_option linter.unusedVariables false
set_option maxRecDepth 20000

/-- Slices of numbers that lie one behind the other in block g. -/
abbrev Part := Option Addr × Nat × Nat × List Int
def Pts (w : World) (g : Nat) (ps : List Part) : Prop := ∀ j p, ps[j]? = some p → w.cell? ⟨g, j, none⟩ = some (.slice p.1 p.2.1 p.2.2.1) ∧ Sl w p.1 p.2.1 p.2.2.1 p.2.2.2
def catL (ps : List Part) : List Int := ps.flatMap (·.2.2.2)
theorem catL_snoc (ps : List Part) (k : Nat) (h : k < ps.length) : catL (ps.take (k + 1)) = catL (ps.take k) ++ ps[k].2.2.2 := by
  unfold catL; rw [take_snoc ps k h, List.flatMap_append]; simp
theorem catL_le (ps : List Part) (k : Nat) : (catL (ps.take k)).length ≤ (catL ps).length := by
  have : catL ps = catL (ps.take k) ++ catL (ps.drop k) := by unfold catL; rw [← List.flatMap_append, List.take_append_drop]
  rw [this, List.length_append]; omega

/-- What a call that makes one row gives: the row, and nothing that was there has changed. -/
def Made (el : TypeId) (w : World) (zs : List Int) (e : Ending) (w' : World) : Prop := ∃ v, e = .returned v ∧ Row el w.heap.size w' v zs ∧ Below w.heap.size w w'

theorem info_int : (Try.prog.underlying 3) = some (.int .i64) := Try.underlying3

set_option maxHeartbeats 1000000 in
theorem growK_walk (n : Nat) (w : World) (hn : n ≤ 100000) :
    Calls Try.prog 89 #[.slice none 0 0, .int .i64 (n : Int)] w (Made 2 w []) := by
  obtain ⟨i0, hi0, hz0, hz1, hz2⟩ := info_parts rowK.info
  by_cases h0 : n = 0
  · subst h0
    go_enter Try.func89, Try.ntmps89
    go_wp2
    go_ret
    exact ⟨_, rfl, Row.nil _ _ _, Below.refl _ _⟩
  · have hp : (0 : Int) < (n : Int) := by omega
    have hr : ∀ ty, (Builtin.append_ #[37, 3] ty #[.slice none 0 0, .int .i64 (n : Int)]).run Try.prog w =
        .ok (.slice (some ⟨w.heap.size, 0, none⟩) n (grownCap w n 0 2)) (w.drew.alloc (.cells (Builtin.zeroCells (Value.int .i64 0).cells n ++ Builtin.zeroCells (Value.int .i64 0).cells (grownCap w n 0 2 - n)) 2)) := fun ty =>
      Lib.run_append_nil_zeros w 37 3 ty 2 i0 _ .i64 .i64 rowK.under info_int hi0 hz0 n (by omega) (by omega) (by omega) (by rw [hz2]; omega)
    have hG1 := grownCap_ge w n 0 2
    have hG2 := grownCap_le_maxLen w n 0 2 (by unfold maxLen; omega)
    have hG3 : ((grownCap w n 0 2 : Nat) : Int) ≤ 9223372036854775807 := by unfold maxLen at hG2; omega
    generalize grownCap w n 0 2 = G at *
    have HR : Hid (Row 2 w.heap.size (w.drew.alloc (.cells (Builtin.zeroCells (Value.int .i64 0).cells n ++ Builtin.zeroCells (Value.int .i64 0).cells (G - n)) 2)) (.slice (some ⟨w.heap.size, 0, none⟩) 0 G) []) :=
      World.ownsRow_made w.drew _ G (Nat.le_refl _) hG2 (by rw [Array.size_append, size_zeroCells, size_zeroCells, show (Value.int .i64 0).cells.size = 1 from rfl]; omega)
    have HB : Hid (Below w.heap.size w (w.drew.alloc (.cells (Builtin.zeroCells (Value.int .i64 0).cells n ++ Builtin.zeroCells (Value.int .i64 0).cells (G - n)) 2))) := ((Below.refl _ w).drew).alloc (Nat.le_refl _) _
    clear hG2
    go_enter Try.func89, Try.ntmps89
    go_wp2_with (at_builtin; refine Lib.wpList_append_run _ rfl _ _ _ _ rfl _ _ rfl rfl _ _ (hr _) ?_)
    go_ret
    exact ⟨_, rfl, HR.out, HB.out⟩

set_option maxHeartbeats 1000000 in
theorem concatK_walk (g m c : Nat) (ps : List Part) (w : World) (h : Pts w g ps) (hm : ps.length = m) (hN : (catL ps).length ≤ 100000) (hm2 : m ≤ 1000) :
    Calls Try.prog 75 #[.slice (some ⟨g, 0, none⟩) m c] w (Made 2 w (catL ps)) := by
  have HM := Lib.hid hm
  clear hm
  go_enter Try.func75, Try.ntmps75
  go_wp2
  go_loop [3, 11] (fun s i => ∃ k : Nat, k ≤ m ∧ i = .int .i64 k ∧ s = .int .i64 ((catL (ps.take k)).length : Nat)) (fun _ i => m - (intOf i).toNat)
  case atStart => exact ⟨0, Nat.zero_le _, rfl, rfl⟩
  case round =>
    obtain ⟨k, hk, rfl, rfl⟩ := hrel
    by_cases hlt : k < m
    · have hkl : k < ps.length := by have := HM.out; omega
      obtain ⟨h1, h2⟩ := h k _ (List.getElem?_eq_getElem hkl)
      have HS : Hid ((catL (ps.take (k + 1))).length = (catL (ps.take k)).length + ps[k].2.1) := by show _ = _; rw [catL_snoc ps k hkl, List.length_append, h2.len]
      have hb1 := catL_le ps (k + 1)
      rw [HS.out] at hb1
      clear h2
      generalize ps[k] = p at *
      generalize (catL (ps.take k)).length = s at *
      obtain ⟨pA, pn, pc, pl⟩ := p
      simp only at h1 hb1 HS
      go_wp2
      go_round
      case rel => exact ⟨k + 1, by omega, by go_num, by rw [HS.out]; go_num⟩
      case measure => simp [intOf]; omega
    · have hall : ps.take k = ps := List.take_of_length_le (by have := HM.out; omega)
      rw [hall]
      clear hall
      generalize hN0 : (catL ps).length = N at *
      have HN0 := Lib.hid hN0
      clear hN0
      go_wp2_with fail
      refine (growK_walk N w hN).mono ?_
      rintro e w1 ⟨v, rfl, hrow, hb⟩
      go_wp2
      go_loopw [6, 27] (fun u i wr => ∃ (k : Nat), k ≤ m ∧ i = .int .i64 k ∧ Row 2 w.heap.size wr u (catL (ps.take k)) ∧ Below w.heap.size w wr) (fun _ i _ => m - (intOf i).toNat)
      case atStart => exact ⟨0, Nat.zero_le _, rfl, hrow, hb⟩
      case round =>
        clear hk hrow hb
        obtain ⟨k, hk, rfl, hrow, hb⟩ := hrel
        by_cases hlt : k < m
        · have hkl : k < ps.length := by have := HM.out; omega
          obtain ⟨h1, h2⟩ := h k _ (List.getElem?_eq_getElem hkl)
          have hg1 : g < w.heap.size := World.block_lt_of_cell? w _ h1
          have d1 := (hb.cell (p := ⟨g, k, none⟩) hg1).trans h1
          have HS : Hid (catL (ps.take (k + 1)) = catL (ps.take k) ++ ps[k].2.2.2) := catL_snoc ps k hkl
          have hb1 := catL_le ps (k + 1)
          rw [HS.out, List.length_append, HN0.out] at hb1
          have HL : Hid (Sl wr ps[k].1 ps[k].2.1 ps[k].2.2.1 ps[k].2.2.2) := h2.below hb
          clear h2 h1
          generalize ps[k] = p at *
          obtain ⟨pA, pn, pc, pl⟩ := p
          simp only at d1 hb1 HS HL
          generalize catL (ps.take k) = s at *
          go_wp2_with (at_builtin; refine pushN rowK (base := w.heap.size) rfl (.tmp 31) (.tmp 32) rfl _ s rfl hrow pA pn pc pl rfl HL.out (by omega) hb.size ?_; intro u2 w2 hrow2 hgr2)
          go_roundw
          case rel => exact ⟨k + 1, by omega, by go_num, by rw [HS.out]; exact hrow2, hb.grown hgr2 hb.size (fun k hk => (World.ownsRow.lt hrow k hk).1)⟩
          case measure => simp [intOf]; omega
        · have hall : ps.take k = ps := List.take_of_length_le (by have := HM.out; omega)
          rw [hall] at hrow
          go_wp2
          go_ret
          exact ⟨_, rfl, hrow, hb⟩

theorem concatK1 (g : Nat) (A : Option Addr) (n c : Nat) (zs : List Int) (w : World) (h1 : w.cell? ⟨g, 0, none⟩ = some (.slice A n c)) (s1 : Sl w A n c zs) (hn : zs.length ≤ 1000) :
    Calls Try.prog 75 #[.slice (some ⟨g, 0, none⟩) 1 1] w (Made 2 w zs) := by
  have h : Pts w g [(A, n, c, zs)] := by
    intro j p hj
    match j, hj with
    | 0, hj => simp at hj; subst hj; exact ⟨h1, s1⟩
  have := concatK_walk g 1 1 _ w h rfl (by simp [catL]; omega) (by omega)
  simpa [catL] using this
theorem concatK2 (g : Nat) (A B : Option Addr) (n c m d : Nat) (zs ys : List Int) (w : World) (h1 : w.cell? ⟨g, 0, none⟩ = some (.slice A n c)) (h2 : w.cell? ⟨g, 1, none⟩ = some (.slice B m d)) (s1 : Sl w A n c zs) (s2 : Sl w B m d ys) (hn : zs.length + ys.length ≤ 1000) :
    Calls Try.prog 75 #[.slice (some ⟨g, 0, none⟩) 2 2] w (Made 2 w (zs ++ ys)) := by
  have h : Pts w g [(A, n, c, zs), (B, m, d, ys)] := by
    intro j p hj
    match j, hj with
    | 0, hj => simp at hj; subst hj; exact ⟨h1, s1⟩
    | 1, hj => simp at hj; subst hj; exact ⟨h2, s2⟩
  have := concatK_walk g 2 2 _ w h rfl (by simp [catL]; omega) (by omega)
  simpa [catL] using this
theorem concatK3 (g : Nat) (A B C : Option Addr) (n c m d p q : Nat) (zs ys xs : List Int) (w : World) (h1 : w.cell? ⟨g, 0, none⟩ = some (.slice A n c)) (h2 : w.cell? ⟨g, 1, none⟩ = some (.slice B m d)) (h3 : w.cell? ⟨g, 2, none⟩ = some (.slice C p q)) (s1 : Sl w A n c zs) (s2 : Sl w B m d ys) (s3 : Sl w C p q xs) (hn : zs.length + ys.length + xs.length ≤ 1000) :
    Calls Try.prog 75 #[.slice (some ⟨g, 0, none⟩) 3 3] w (Made 2 w (zs ++ (ys ++ xs))) := by
  have h : Pts w g [(A, n, c, zs), (B, m, d, ys), (C, p, q, xs)] := by
    intro j p hj
    match j, hj with
    | 0, hj => simp at hj; subst hj; exact ⟨h1, s1⟩
    | 1, hj => simp at hj; subst hj; exact ⟨h2, s2⟩
    | 2, hj => simp at hj; subst hj; exact ⟨h3, s3⟩
  have := concatK_walk g 3 3 _ w h rfl (by simp [catL]; omega) (by omega)
  simpa [catL] using this

set_option maxHeartbeats 1000000 in
theorem growR_walk (n : Nat) (w : World) (hn : n ≤ 100000) :
    Calls Try.prog 82 #[.slice none 0 0, .int .i64 (n : Int)] w (Made 30 w []) := by
  obtain ⟨i0, hi0, hz0, hz1, hz2⟩ := info_parts rowR.info
  by_cases h0 : n = 0
  · subst h0
    go_enter Try.func82, Try.ntmps82
    go_wp2
    go_ret
    exact ⟨_, rfl, Row.nil _ _ _, Below.refl _ _⟩
  · have hp : (0 : Int) < (n : Int) := by omega
    have hr : ∀ ty, (Builtin.append_ #[38, 3] ty #[.slice none 0 0, .int .i64 (n : Int)]).run Try.prog w =
        .ok (.slice (some ⟨w.heap.size, 0, none⟩) n (grownCap w n 0 30)) (w.drew.alloc (.cells (Builtin.zeroCells (Value.int .i64 0).cells n ++ Builtin.zeroCells (Value.int .i64 0).cells (grownCap w n 0 30 - n)) 30)) := fun ty =>
      Lib.run_append_nil_zeros w 38 3 ty 30 i0 _ .i64 .i64 rowR.under info_int hi0 hz0 n (by omega) (by omega) (by omega) (by rw [hz2]; omega)
    have hG1 := grownCap_ge w n 0 30
    have hG2 := grownCap_le_maxLen w n 0 30 (by unfold maxLen; omega)
    have hG3 : ((grownCap w n 0 30 : Nat) : Int) ≤ 9223372036854775807 := by unfold maxLen at hG2; omega
    generalize grownCap w n 0 30 = G at *
    have HR : Hid (Row 30 w.heap.size (w.drew.alloc (.cells (Builtin.zeroCells (Value.int .i64 0).cells n ++ Builtin.zeroCells (Value.int .i64 0).cells (G - n)) 30)) (.slice (some ⟨w.heap.size, 0, none⟩) 0 G) []) :=
      World.ownsRow_made w.drew _ G (Nat.le_refl _) hG2 (by rw [Array.size_append, size_zeroCells, size_zeroCells, show (Value.int .i64 0).cells.size = 1 from rfl]; omega)
    have HB : Hid (Below w.heap.size w (w.drew.alloc (.cells (Builtin.zeroCells (Value.int .i64 0).cells n ++ Builtin.zeroCells (Value.int .i64 0).cells (G - n)) 30))) := ((Below.refl _ w).drew).alloc (Nat.le_refl _) _
    clear hG2
    go_enter Try.func82, Try.ntmps82
    go_wp2_with (at_builtin; refine Lib.wpList_append_run _ rfl _ _ _ _ rfl _ _ rfl rfl _ _ (hr _) ?_)
    go_ret
    exact ⟨_, rfl, HR.out, HB.out⟩

set_option maxHeartbeats 1000000 in
theorem concatR_walk (g m c : Nat) (ps : List Part) (w : World) (h : Pts w g ps) (hm : ps.length = m) (hN : (catL ps).length ≤ 100000) (hm2 : m ≤ 1000) :
    Calls Try.prog 65 #[.slice (some ⟨g, 0, none⟩) m c] w (Made 30 w (catL ps)) := by
  have HM := Lib.hid hm
  clear hm
  go_enter Try.func65, Try.ntmps65
  go_wp2
  go_loop [3, 11] (fun s i => ∃ k : Nat, k ≤ m ∧ i = .int .i64 k ∧ s = .int .i64 ((catL (ps.take k)).length : Nat)) (fun _ i => m - (intOf i).toNat)
  case atStart => exact ⟨0, Nat.zero_le _, rfl, rfl⟩
  case round =>
    obtain ⟨k, hk, rfl, rfl⟩ := hrel
    by_cases hlt : k < m
    · have hkl : k < ps.length := by have := HM.out; omega
      obtain ⟨h1, h2⟩ := h k _ (List.getElem?_eq_getElem hkl)
      have HS : Hid ((catL (ps.take (k + 1))).length = (catL (ps.take k)).length + ps[k].2.1) := by show _ = _; rw [catL_snoc ps k hkl, List.length_append, h2.len]
      have hb1 := catL_le ps (k + 1)
      rw [HS.out] at hb1
      clear h2
      generalize ps[k] = p at *
      generalize (catL (ps.take k)).length = s at *
      obtain ⟨pA, pn, pc, pl⟩ := p
      simp only at h1 hb1 HS
      go_wp2
      go_round
      case rel => exact ⟨k + 1, by omega, by go_num, by rw [HS.out]; go_num⟩
      case measure => simp [intOf]; omega
    · have hall : ps.take k = ps := List.take_of_length_le (by have := HM.out; omega)
      rw [hall]
      clear hall
      generalize hN0 : (catL ps).length = N at *
      have HN0 := Lib.hid hN0
      clear hN0
      go_wp2_with fail
      refine (growR_walk N w hN).mono ?_
      rintro e w1 ⟨v, rfl, hrow, hb⟩
      go_wp2
      go_loopw [6, 27] (fun u i wr => ∃ (k : Nat), k ≤ m ∧ i = .int .i64 k ∧ Row 30 w.heap.size wr u (catL (ps.take k)) ∧ Below w.heap.size w wr) (fun _ i _ => m - (intOf i).toNat)
      case atStart => exact ⟨0, Nat.zero_le _, rfl, hrow, hb⟩
      case round =>
        clear hk hrow hb
        obtain ⟨k, hk, rfl, hrow, hb⟩ := hrel
        by_cases hlt : k < m
        · have hkl : k < ps.length := by have := HM.out; omega
          obtain ⟨h1, h2⟩ := h k _ (List.getElem?_eq_getElem hkl)
          have hg1 : g < w.heap.size := World.block_lt_of_cell? w _ h1
          have d1 := (hb.cell (p := ⟨g, k, none⟩) hg1).trans h1
          have HS : Hid (catL (ps.take (k + 1)) = catL (ps.take k) ++ ps[k].2.2.2) := catL_snoc ps k hkl
          have hb1 := catL_le ps (k + 1)
          rw [HS.out, List.length_append, HN0.out] at hb1
          have HL : Hid (Sl wr ps[k].1 ps[k].2.1 ps[k].2.2.1 ps[k].2.2.2) := h2.below hb
          clear h2 h1
          generalize ps[k] = p at *
          obtain ⟨pA, pn, pc, pl⟩ := p
          simp only at d1 hb1 HS HL
          generalize catL (ps.take k) = s at *
          go_wp2_with (at_builtin; refine pushN rowR (base := w.heap.size) rfl (.tmp 31) (.tmp 32) rfl _ s rfl hrow pA pn pc pl rfl HL.out (by omega) hb.size ?_; intro u2 w2 hrow2 hgr2)
          go_roundw
          case rel => exact ⟨k + 1, by omega, by go_num, by rw [HS.out]; exact hrow2, hb.grown hgr2 hb.size (fun k hk => (World.ownsRow.lt hrow k hk).1)⟩
          case measure => simp [intOf]; omega
        · have hall : ps.take k = ps := List.take_of_length_le (by have := HM.out; omega)
          rw [hall] at hrow
          go_wp2
          go_ret
          exact ⟨_, rfl, hrow, hb⟩

theorem concatR1 (g : Nat) (A : Option Addr) (n c : Nat) (zs : List Int) (w : World) (h1 : w.cell? ⟨g, 0, none⟩ = some (.slice A n c)) (s1 : Sl w A n c zs) (hn : zs.length ≤ 1000) :
    Calls Try.prog 65 #[.slice (some ⟨g, 0, none⟩) 1 1] w (Made 30 w zs) := by
  have h : Pts w g [(A, n, c, zs)] := by
    intro j p hj
    match j, hj with
    | 0, hj => simp at hj; subst hj; exact ⟨h1, s1⟩
  have := concatR_walk g 1 1 _ w h rfl (by simp [catL]; omega) (by omega)
  simpa [catL] using this
theorem concatR2 (g : Nat) (A B : Option Addr) (n c m d : Nat) (zs ys : List Int) (w : World) (h1 : w.cell? ⟨g, 0, none⟩ = some (.slice A n c)) (h2 : w.cell? ⟨g, 1, none⟩ = some (.slice B m d)) (s1 : Sl w A n c zs) (s2 : Sl w B m d ys) (hn : zs.length + ys.length ≤ 1000) :
    Calls Try.prog 65 #[.slice (some ⟨g, 0, none⟩) 2 2] w (Made 30 w (zs ++ ys)) := by
  have h : Pts w g [(A, n, c, zs), (B, m, d, ys)] := by
    intro j p hj
    match j, hj with
    | 0, hj => simp at hj; subst hj; exact ⟨h1, s1⟩
    | 1, hj => simp at hj; subst hj; exact ⟨h2, s2⟩
  have := concatR_walk g 2 2 _ w h rfl (by simp [catL]; omega) (by omega)
  simpa [catL] using this
theorem concatR3 (g : Nat) (A B C : Option Addr) (n c m d p q : Nat) (zs ys xs : List Int) (w : World) (h1 : w.cell? ⟨g, 0, none⟩ = some (.slice A n c)) (h2 : w.cell? ⟨g, 1, none⟩ = some (.slice B m d)) (h3 : w.cell? ⟨g, 2, none⟩ = some (.slice C p q)) (s1 : Sl w A n c zs) (s2 : Sl w B m d ys) (s3 : Sl w C p q xs) (hn : zs.length + ys.length + xs.length ≤ 1000) :
    Calls Try.prog 65 #[.slice (some ⟨g, 0, none⟩) 3 3] w (Made 30 w (zs ++ (ys ++ xs))) := by
  have h : Pts w g [(A, n, c, zs), (B, m, d, ys), (C, p, q, xs)] := by
    intro j p hj
    match j, hj with
    | 0, hj => simp at hj; subst hj; exact ⟨h1, s1⟩
    | 1, hj => simp at hj; subst hj; exact ⟨h2, s2⟩
    | 2, hj => simp at hj; subst hj; exact ⟨h3, s3⟩
  have := concatR_walk g 3 3 _ w h rfl (by simp [catL]; omega) (by omega)
  simpa [catL] using this

/-- A row of pairs that lies at block base or above, and reads as l. -/
def Prs (base : Nat) (w : World) (v : Value) (l : List (Int × Int)) : Prop := w.ownsRow base 119 2 v l.length (cellsP l)
/-- A slice of n pairs at A, with room for c. -/
structure Lp (w : World) (A : Option Addr) (n c : Nat) (l : List (Int × Int)) : Prop where
  lf : Lf w A n l
  cap : n ≤ c
  none_ : A = none → c = 0
theorem Lp.nil (w : World) : Lp w none 0 0 [] := ⟨Lf.nil _ _, Nat.le_refl _, fun _ => rfl⟩
theorem Lp.below {w w' : World} {A : Option Addr} {n c : Nat} {l : List (Int × Int)} (h : Lp w A n c l) (hb : Below w.heap.size w w') : Lp w' A n c l := ⟨h.lf.below hb, h.cap, h.none_⟩
theorem Lp.keep {w w' : World} {A : Option Addr} {n c : Nat} {l : List (Int × Int)} (h : Lp w A n c l) (hk : ∀ p : Addr, p.block < w.heap.size → w'.cell? p = w.cell? p) : Lp w' A n c l := ⟨h.lf.keep hk, h.cap, h.none_⟩
theorem Lp.len {w : World} {A : Option Addr} {n c : Nat} {l : List (Int × Int)} (h : Lp w A n c l) : n = l.length := h.lf.len
theorem Prs.nil (base : Nat) (w : World) : Prs base w (.slice none 0 0) [] := World.ownsRow_nil _ _ _ _
theorem Prs.form {base : Nat} {w : World} {v : Value} {l : List (Int × Int)} (h : Prs base w v l) : ∃ A c, v = .slice A l.length c ∧ Lp w A l.length c l := by
  have hl : w.ownsRow base 119 2 v l.length (cellsP l) := h
  rcases h.2 with ⟨rfl, h0⟩ | ⟨g, cap, cur, rfl, _, _, h1, h2, _⟩
  · have e : l = [] := List.eq_nil_of_length_eq_zero h0
    subst e
    exact ⟨none, 0, rfl, Lp.nil _⟩
  · exact ⟨_, cap, rfl, Lf.of_own hl, h1, fun e => by cases e⟩
theorem Prs.shape {base : Nat} {w : World} {v : Value} {l : List (Int × Int)} (h : Prs base w v l) : ∃ A n c, v = .slice A n c := by
  obtain ⟨A, c, e, _⟩ := h.form
  exact ⟨A, _, c, e⟩
theorem Prs.lp {base : Nat} {w : World} {A : Option Addr} {n c : Nat} {l : List (Int × Int)} (h : Prs base w (.slice A n c) l) : Lp w A n c l := by
  obtain ⟨_, _, e, s⟩ := h.form
  injection e with e1 e2 e3
  subst e1 e2 e3
  exact s
theorem Prs.lower {base base' : Nat} {w : World} {v : Value} {l : List (Int × Int)} (h : Prs base w v l) (hb : base' ≤ base) : Prs base' w v l := by
  obtain ⟨h1, h2⟩ := h
  refine ⟨h1, ?_⟩
  rcases h2 with h2 | ⟨g, cap, cur, e, hg, r⟩
  · exact .inl h2
  · exact .inr ⟨g, cap, cur, e, Nat.le_trans hb hg, r⟩
theorem Prs.grown {base : Nat} {w w' : World} {v : Value} {l : List (Int × Int)} (h : Prs base w v l) {row : Option Nat} (hg : w.grownBy w' row) (hne : v.ownBlock = none ∨ v.ownBlock ≠ row) : Prs base w' v l := World.ownsRow.kept h hg hne
theorem Prs.next {base : Nat} {w w' : World} {v : Value} {l : List (Int × Int)} (h : Prs base w v l) (hb : Below w.heap.size w w') : Prs base w' v l := by
  refine World.ownsRow.kept (row := none) h ⟨hb.os, hb.tape, hb.output, hb.size, fun k hk _ => hb.block k hk⟩ ?_
  cases v.ownBlock with
  | none => exact .inl rfl
  | some _ => exact .inr (by simp)

/-- The run of 'append(out, src...)' over pairs. -/
theorem run_pushP {base : Nat} {w : World} (ty : TypeId) (v : Value) (l : List (Int × Int)) (hown : Prs base w v l) (A : Option Addr) (n c : Nat) (ms : List (Int × Int)) (hm : Lp w A n c ms) (hlen : l.length + ms.length ≤ 100000) (hb : base ≤ w.heap.size) :
    ∃ v' w', (Builtin.append_ #[36, 36] ty #[v, .slice A n c]).run Try.prog w = .ok v' w' ∧ Prs base w' v' (l ++ ms) ∧ w.grownBy w' v.ownBlock := by
  obtain ⟨i0, hi0, hz0, hz1, hz2⟩ := info_parts pair_info
  have hn := hm.len
  cases A with
  | none =>
    have e : ms = [] := by
      rcases hm.lf.2 with e | ⟨_, _, e, _⟩
      · exact e
      · cases e
    subst e
    obtain rfl : c = 0 := hm.none_ rfl
    obtain rfl : n = 0 := by simpa using hn
    exact ⟨v, w, run_append_owned_none (P := Try.prog) w base 36 ty 119 i0 2 Try.underlying36 hi0 v l.length (cellsP l) hown, by simpa using hown, World.grownBy.refl _ _⟩
  | some ad =>
    obtain ⟨v', w', h1, h2, h3, _⟩ := run_append_own (P := Try.prog) w base 36 ty 119 i0 _ 2 16 Try.underlying36 hi0 hz0 hz1 hz2 rfl (by omega) v l.length (cellsP l) hown ad n c (cellsP ms) (by rw [cellsP_length, hn])
      (by
        intro j u hj
        rcases hm.lf.2 with e | ⟨b, off, e, hc⟩
        · subst e; simp [cellsP] at hj
        · have e := Option.some.inj e
          subst e
          have := hc j u hj
          unfold Addr.add
          split
          · rename_i e0; subst e0; exact this
          · exact this) (cellsP_oneCell _) (by unfold maxLen; omega) (by omega) hb
    refine ⟨v', w', h1, ?_, h3⟩
    unfold Prs
    rw [List.length_append, ← hn, cellsP_append]
    exact h2
section
variable {ops : Array Oper} {rest : List Oper} {o : Oper} {a : Act} {Q : Exit → Act → World → Prop} {base : Nat} {w : World}
theorem pushP (hg : o.guard = none) (s x : Operand) (ho : o.op = .call { callee := .builtin .append, args := #[s, x], argTypes := #[36, 36] })
    (v : Value) (zs : List (Int × Int)) (hs : a.eval s = v) (hown : Prs base w v zs) (A : Option Addr) (n c : Nat) (ms : List (Int × Int)) (hx : a.eval x = .slice A n c) (hm : Lp w A n c ms) (hlen : zs.length + ms.length ≤ 100000) (hb : base ≤ w.heap.size)
    (h : ∀ v' w', Prs base w' v' (zs ++ ms) → w.grownBy w' v.ownBlock → wpList Try.prog ops Q rest (a.put o.dst v') w') :
    wpList Try.prog ops Q (o :: rest) a w := by
  obtain ⟨v', w', hr, h1, h2⟩ := run_pushP o.type v zs hown A n c ms hm hlen hb
  exact Lib.wpList_append_run (P := Try.prog) w hg s x 36 36 ho v _ hs hx v' w' hr (h v' w' h1 h2)
end

def MadeP (w : World) (l : List (Int × Int)) (e : Ending) (w' : World) : Prop := ∃ v, e = .returned v ∧ Prs w.heap.size w' v l ∧ Below w.heap.size w w'

set_option maxHeartbeats 1000000 in
theorem growP_walk (n : Nat) (w : World) (hn : n ≤ 100000) :
    Calls Try.prog 88 #[.slice none 0 0, .int .i64 (n : Int)] w (MadeP w []) := by
  obtain ⟨i0, hi0, hz0, hz1, hz2⟩ := info_parts pair_info
  by_cases h0 : n = 0
  · subst h0
    go_enter Try.func88, Try.ntmps88
    go_wp2
    go_ret
    exact ⟨_, rfl, Prs.nil _ _, Below.refl _ _⟩
  · have hp : (0 : Int) < (n : Int) := by omega
    have hr : ∀ ty, (Builtin.append_ #[36, 3] ty #[.slice none 0 0, .int .i64 (n : Int)]).run Try.prog w =
        .ok (.slice (some ⟨w.heap.size, 0, none⟩) n (grownCap w n 0 119)) (w.drew.alloc (.cells (Builtin.zeroCells (Value.agg #[.int .i64 0, .int .i64 0]).cells n ++ Builtin.zeroCells (Value.agg #[.int .i64 0, .int .i64 0]).cells (grownCap w n 0 119 - n)) 119)) := fun ty =>
      Lib.run_append_nil_zeros w 36 3 ty 119 i0 _ .i64 .i64 Try.underlying36 info_int hi0 hz0 n (by omega) (by omega) (by omega) (by rw [hz2]; omega)
    have hG1 := grownCap_ge w n 0 119
    have hG2 := grownCap_le_maxLen w n 0 119 (by unfold maxLen; omega)
    have hG3 : ((grownCap w n 0 119 : Nat) : Int) ≤ 9223372036854775807 := by unfold maxLen at hG2; omega
    generalize grownCap w n 0 119 = G at *
    have HR : Hid (Prs w.heap.size (w.drew.alloc (.cells (Builtin.zeroCells (Value.agg #[.int .i64 0, .int .i64 0]).cells n ++ Builtin.zeroCells (Value.agg #[.int .i64 0, .int .i64 0]).cells (G - n)) 119)) (.slice (some ⟨w.heap.size, 0, none⟩) 0 G) []) :=
      World.ownsRow_made w.drew _ G (Nat.le_refl _) hG2 (by rw [Array.size_append, size_zeroCells, size_zeroCells, show (Value.agg #[.int .i64 0, .int .i64 0]).cells.size = 2 from rfl]; omega)
    have HB : Hid (Below w.heap.size w (w.drew.alloc (.cells (Builtin.zeroCells (Value.agg #[.int .i64 0, .int .i64 0]).cells n ++ Builtin.zeroCells (Value.agg #[.int .i64 0, .int .i64 0]).cells (G - n)) 119))) := ((Below.refl _ w).drew).alloc (Nat.le_refl _) _
    clear hG2
    go_enter Try.func88, Try.ntmps88
    go_wp2_with (at_builtin; refine Lib.wpList_append_run _ rfl _ _ _ _ rfl _ _ rfl rfl _ _ (hr _) ?_)
    go_ret
    exact ⟨_, rfl, HR.out, HB.out⟩

set_option maxHeartbeats 1000000 in
theorem concatP1 (g : Nat) (A : Option Addr) (n c : Nat) (l : List (Int × Int)) (w : World) (h1 : w.cell? ⟨g, 0, none⟩ = some (.slice A n c)) (s1 : Lp w A n c l) (hn : l.length ≤ 1000) :
    Calls Try.prog 74 #[.slice (some ⟨g, 0, none⟩) 1 1] w (MadeP w l) := by
  have hln := Lib.hid s1.len
  have hn1 : n ≤ 1000 := by have := s1.len; omega
  go_enter Try.func74, Try.ntmps74
  go_wp2
  go_loop [3, 11] (fun s i => ∃ k : Nat, k ≤ 1 ∧ i = .int .i64 k ∧ s = .int .i64 (k * n : Nat)) (fun _ i => 1 - (intOf i).toNat)
  case atStart => exact ⟨0, Nat.zero_le _, rfl, by simp⟩
  case round =>
    obtain ⟨k, hk, rfl, rfl⟩ := hrel
    by_cases hlt : k < 1
    · obtain rfl : k = 0 := by omega
      rw [Nat.zero_mul]
      go_wp2
      go_round
      case rel => exact ⟨1, by omega, by go_num, by go_num⟩
      case measure => simp [intOf]
    · obtain rfl : k = 1 := by omega
      rw [Nat.one_mul]
      go_wp2_with fail
      refine (growP_walk n w (by omega)).mono ?_
      rintro e w1 ⟨v, rfl, hrow, hb⟩
      go_wp2
      go_loopw [6, 27] (fun u i wr => ∃ (k : Nat), k ≤ 1 ∧ i = .int .i64 k ∧ Prs w.heap.size wr u (if k = 0 then [] else l) ∧ Below w.heap.size w wr) (fun _ i _ => 1 - (intOf i).toNat)
      case atStart => exact ⟨0, Nat.zero_le _, rfl, hrow, hb⟩
      case round =>
        clear hk hrow hb
        obtain ⟨k, hk, rfl, hrow, hb⟩ := hrel
        by_cases hlt : k < 1
        · obtain rfl : k = 0 := by omega
          have hg1 : g < w.heap.size := World.block_lt_of_cell? w _ h1
          have d1 := (hb.cell (p := ⟨g, 0, none⟩) hg1).trans h1
          have HL : Hid (Lp wr A n c l) := s1.keep fun p hp => hb.cell hp
          rw [if_pos rfl] at hrow
          go_wp2_with (at_builtin; refine pushP (base := w.heap.size) rfl (.tmp 31) (.tmp 32) rfl _ [] rfl hrow A n c l rfl HL.out (by simp; omega) hb.size ?_; intro u2 w2 hrow2 hgr2)
          go_roundw
          case rel => exact ⟨1, by omega, by go_num, by simpa using hrow2, hb.grown hgr2 hb.size (fun k hk => (World.ownsRow.lt hrow k hk).1)⟩
          case measure => simp [intOf]
        · obtain rfl : k = 1 := by omega
          rw [if_neg (by omega)] at hrow
          go_wp2
          go_ret
          exact ⟨_, rfl, hrow, hb⟩
end Go.Proofs.Ytmnbdhngadjmiaa
