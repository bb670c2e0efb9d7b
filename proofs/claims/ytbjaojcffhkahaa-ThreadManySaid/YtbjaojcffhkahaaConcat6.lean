/-
  The library's slices.Grow (of no slice) and slices.Concat, over numbers: a row of its own, of all the parts, one behind the other.
-/
import Derived.Test.YtbjaojcffhkahaaBase6
namespace Go.Proofs.Ytbjaojcffhkahaa
open Go.ChangeShapes Go.WideShapes Go.ChangeAt Go.RowKit
set_option linter.unusedVariables false
set_option maxRecDepth 20000

/-- Slices of numbers that lie one behind the other in block g. -/
abbrev Part := Option Addr × Nat × Nat × List Int
def Pts (w : World) (g : Nat) (ps : List Part) : Prop := ∀ j p, ps[j]? = some p → w.cell? ⟨g, j, none⟩ = some (.slice p.1 p.2.1 p.2.2.1) ∧ Sl w p.1 p.2.1 p.2.2.1 p.2.2.2
def catL (ps : List Part) : List Int := ps.flatMap (·.2.2.2)
theorem catL_snoc (ps : List Part) (k : Nat) (h : k < ps.length) : catL (ps.take (k + 1)) = catL (ps.take k) ++ ps[k].2.2.2 := by
  unfold catL; rw [take_snoc ps k h, List.flatMap_append]; simp
theorem catL_le (ps : List Part) (k : Nat) : (catL (ps.take k)).length ≤ (catL ps).length := by
  have : catL ps = catL (ps.take k) ++ catL (ps.drop k) := by unfold catL; rw [← List.flatMap_append, List.take_append_drop]
  rw [this, List.length_append]; omega

/-- What a call that makes one row gives: the row, and nothing that was there has changed. -/
def Made (el : TypeId) (w : World) (zs : List Int) (e : Ending) (w' : World) : Prop := ∃ v, e = .returned v ∧ Row el w.heap.size w' v zs ∧ Below w.heap.size w w'

theorem info_int : (Try.prog.underlying 3) = some (.int .i64) := Try.underlying3

set_option maxHeartbeats 1000000 in
theorem growK_walk (n : Nat) (w : World) (hn : n ≤ 100000) :
    Calls Try.prog 44 #[.slice none 0 0, .int .i64 (n : Int)] w (Made 2 w []) := by
  obtain ⟨i0, hi0, hz0, hz1, hz2⟩ := info_parts rowK.info
  by_cases h0 : n = 0
  · subst h0
    go_enter Try.func44, Try.ntmps44
    go_wp2
    go_ret
    exact ⟨_, rfl, Row.nil _ _ _, Below.refl _ _⟩
  · have hp : (0 : Int) < (n : Int) := by omega
    have hr : ∀ ty, (Builtin.append_ #[26, 3] ty #[.slice none 0 0, .int .i64 (n : Int)]).run Try.prog w =
        .ok (.slice (some ⟨w.heap.size, 0, none⟩) n (grownCap w n 0 2)) (w.drew.alloc (.cells (Builtin.zeroCells (Value.int .i64 0).cells n ++ Builtin.zeroCells (Value.int .i64 0).cells (grownCap w n 0 2 - n)) 2)) := fun ty =>
      Lib.run_append_nil_zeros w 26 3 ty 2 i0 _ .i64 .i64 rowK.under info_int hi0 hz0 n (by omega) (by omega) (by omega) (by rw [hz2]; omega)
    have hG1 := grownCap_ge w n 0 2
    have hG2 := grownCap_le_maxLen w n 0 2 (by unfold maxLen; omega)
    have hG3 : ((grownCap w n 0 2 : Nat) : Int) ≤ 9223372036854775807 := by unfold maxLen at hG2; omega
    generalize grownCap w n 0 2 = G at *
    have HR : Hid (Row 2 w.heap.size (w.drew.alloc (.cells (Builtin.zeroCells (Value.int .i64 0).cells n ++ Builtin.zeroCells (Value.int .i64 0).cells (G - n)) 2)) (.slice (some ⟨w.heap.size, 0, none⟩) 0 G) []) :=
      World.ownsRow_made w.drew _ G (Nat.le_refl _) hG2 (by rw [Array.size_append, size_zeroCells, size_zeroCells, show (Value.int .i64 0).cells.size = 1 from rfl]; omega)
    have HB : Hid (Below w.heap.size w (w.drew.alloc (.cells (Builtin.zeroCells (Value.int .i64 0).cells n ++ Builtin.zeroCells (Value.int .i64 0).cells (G - n)) 2))) := ((Below.refl _ w).drew).alloc (Nat.le_refl _) _
    clear hG2
    go_enter Try.func44, Try.ntmps44
    go_wp2_with (at_builtin; refine Lib.wpList_append_run _ rfl _ _ _ _ rfl _ _ rfl rfl _ _ (hr _) ?_)
    go_ret
    exact ⟨_, rfl, HR.out, HB.out⟩

set_option maxHeartbeats 1000000 in
theorem concatK_walk (g m c : Nat) (ps : List Part) (w : World) (h : Pts w g ps) (hm : ps.length = m) (hN : (catL ps).length ≤ 100000) (hm2 : m ≤ 1000) :
    Calls Try.prog 37 #[.slice (some ⟨g, 0, none⟩) m c] w (Made 2 w (catL ps)) := by
  have HM := Lib.hid hm
  clear hm
  go_enter Try.func37, Try.ntmps37
  go_wp2
  go_loop [3, 11] (fun s i => ∃ k : Nat, k ≤ m ∧ i = .int .i64 k ∧ s = .int .i64 ((catL (ps.take k)).length : Nat)) (fun _ i => m - (intOf i).toNat)
  case atStart => exact ⟨0, Nat.zero_le _, rfl, rfl⟩
  case round =>
    obtain ⟨k, hk, rfl, rfl⟩ := hrel
    by_cases hlt : k < m
    · have hkl : k < ps.length := by have := HM.out; omega
      obtain ⟨h1, h2⟩ := h k _ (List.getElem?_eq_getElem hkl)
      have HS : Hid ((catL (ps.take (k + 1))).length = (catL (ps.take k)).length + ps[k].2.1) := by show _ = _; rw [catL_snoc ps k hkl, List.length_append, h2.len]
      have hb1 := catL_le ps (k + 1)
      rw [HS.out] at hb1
      clear h2
      generalize ps[k] = p at *
      generalize (catL (ps.take k)).length = s at *
      obtain ⟨pA, pn, pc, pl⟩ := p
      simp only at h1 hb1 HS
      go_wp2
      go_round
      case rel => exact ⟨k + 1, by omega, by go_num, by rw [HS.out]; go_num⟩
      case measure => simp [intOf]; omega
    · have hall : ps.take k = ps := List.take_of_length_le (by have := HM.out; omega)
      rw [hall]
      clear hall
      generalize hN0 : (catL ps).length = N at *
      have HN0 := Lib.hid hN0
      clear hN0
      go_wp2_with fail
      refine (growK_walk N w hN).mono ?_
      rintro e w1 ⟨v, rfl, hrow, hb⟩
      go_wp2
      go_loopw [6, 27] (fun u i wr => ∃ (k : Nat), k ≤ m ∧ i = .int .i64 k ∧ Row 2 w.heap.size wr u (catL (ps.take k)) ∧ Below w.heap.size w wr) (fun _ i _ => m - (intOf i).toNat)
      case atStart => exact ⟨0, Nat.zero_le _, rfl, hrow, hb⟩
      case round =>
        clear hk hrow hb
        obtain ⟨k, hk, rfl, hrow, hb⟩ := hrel
        by_cases hlt : k < m
        · have hkl : k < ps.length := by have := HM.out; omega
          obtain ⟨h1, h2⟩ := h k _ (List.getElem?_eq_getElem hkl)
          have hg1 : g < w.heap.size := World.block_lt_of_cell? w _ h1
          have d1 := (hb.cell (p := ⟨g, k, none⟩) hg1).trans h1
          have HS : Hid (catL (ps.take (k + 1)) = catL (ps.take k) ++ ps[k].2.2.2) := catL_snoc ps k hkl
          have hb1 := catL_le ps (k + 1)
          rw [HS.out, List.length_append, HN0.out] at hb1
          have HL : Hid (Sl wr ps[k].1 ps[k].2.1 ps[k].2.2.1 ps[k].2.2.2) := h2.below hb
          clear h2 h1
          generalize ps[k] = p at *
          obtain ⟨pA, pn, pc, pl⟩ := p
          simp only at d1 hb1 HS HL
          generalize catL (ps.take k) = s at *
          go_wp2_with (at_builtin; refine pushN rowK (base := w.heap.size) rfl (.tmp 31) (.tmp 32) rfl _ s rfl hrow pA pn pc pl rfl HL.out (by omega) hb.size ?_; intro u2 w2 hrow2 hgr2)
          go_roundw
          case rel => exact ⟨k + 1, by omega, by go_num, by rw [HS.out]; exact hrow2, hb.grown hgr2 hb.size (fun k hk => (World.ownsRow.lt hrow k hk).1)⟩
          case measure => simp [intOf]; omega
        · have hall : ps.take k = ps := List.take_of_length_le (by have := HM.out; omega)
          rw [hall] at hrow
          go_wp2
          go_ret
          exact ⟨_, rfl, hrow, hb⟩

theorem concatK1 (g : Nat) (A : Option Addr) (n c : Nat) (zs : List Int) (w : World) (h1 : w.cell? ⟨g, 0, none⟩ = some (.slice A n c)) (s1 : Sl w A n c zs) (hn : zs.length ≤ 1000) :
    Calls Try.prog 37 #[.slice (some ⟨g, 0, none⟩) 1 1] w (Made 2 w zs) := by
  have h : Pts w g [(A, n, c, zs)] := by
    intro j p hj
    match j, hj with
    | 0, hj => simp at hj; subst hj; exact ⟨h1, s1⟩
  have := concatK_walk g 1 1 _ w h rfl (by simp [catL]; omega) (by omega)
  simpa [catL] using this
theorem concatK2 (g : Nat) (A B : Option Addr) (n c m d : Nat) (zs ys : List Int) (w : World) (h1 : w.cell? ⟨g, 0, none⟩ = some (.slice A n c)) (h2 : w.cell? ⟨g, 1, none⟩ = some (.slice B m d)) (s1 : Sl w A n c zs) (s2 : Sl w B m d ys) (hn : zs.length + ys.length ≤ 1000) :
    Calls Try.prog 37 #[.slice (some ⟨g, 0, none⟩) 2 2] w (Made 2 w (zs ++ ys)) := by
  have h : Pts w g [(A, n, c, zs), (B, m, d, ys)] := by
    intro j p hj
    match j, hj with
    | 0, hj => simp at hj; subst hj; exact ⟨h1, s1⟩
    | 1, hj => simp at hj; subst hj; exact ⟨h2, s2⟩
  have := concatK_walk g 2 2 _ w h rfl (by simp [catL]; omega) (by omega)
  simpa [catL] using this
theorem concatK3 (g : Nat) (A B C : Option Addr) (n c m d p q : Nat) (zs ys xs : List Int) (w : World) (h1 : w.cell? ⟨g, 0, none⟩ = some (.slice A n c)) (h2 : w.cell? ⟨g, 1, none⟩ = some (.slice B m d)) (h3 : w.cell? ⟨g, 2, none⟩ = some (.slice C p q)) (s1 : Sl w A n c zs) (s2 : Sl w B m d ys) (s3 : Sl w C p q xs) (hn : zs.length + ys.length + xs.length ≤ 1000) :
    Calls Try.prog 37 #[.slice (some ⟨g, 0, none⟩) 3 3] w (Made 2 w (zs ++ (ys ++ xs))) := by
  have h : Pts w g [(A, n, c, zs), (B, m, d, ys), (C, p, q, xs)] := by
    intro j p hj
    match j, hj with
    | 0, hj => simp at hj; subst hj; exact ⟨h1, s1⟩
    | 1, hj => simp at hj; subst hj; exact ⟨h2, s2⟩
    | 2, hj => simp at hj; subst hj; exact ⟨h3, s3⟩
  have := concatK_walk g 3 3 _ w h rfl (by simp [catL]; omega) (by omega)
  simpa [catL] using this

end Go.Proofs.Ytbjaojcffhkahaa
