/-
  The walk of LeafKeeps: it returns true, for every input, and changes nothing that was there.
-/
import Derived.Test.YtfpnchnijfhjhaaLaws1
namespace Go.Proofs.Ytfpnchnijfhjhaa
open Go.ChangeShapes Go.WideShapes Go.ChangeAt Go.RowKit
set_option linter.unusedVariables false

/-- v is a slice whose pairs may be written: it has none, or lies at the head of a block from B on. -/
def RowOK (w : World) (B : Nat) (v : Value) : Prop :=
  ∃ A n c, v = .slice A n c ∧ n ≤ 1000 ∧ (n = 0 ∨ ∃ g cur, A = some ⟨g, 0, none⟩ ∧ B ≤ g ∧ w.heap[g]? = some (.cells cur 31 (0, 0)) ∧ n * 2 ≤ cur.size)

theorem Own.row {w0 w : World} {v : Value} {l : List (Int × Int)} (h : Own w0 w v l) (hl : l.length ≤ 1000) : RowOK w w0.heap.size v := by
  rcases h.1.2 with ⟨rfl, h0⟩ | ⟨g, cap, cur, rfl, hg, hh, h1, _, h3, _⟩
  · exact ⟨none, 0, 0, rfl, by omega, .inl rfl⟩
  · exact ⟨_, _, _, rfl, hl, .inr ⟨g, cur, rfl, hg, hh, by rw [h3]; exact Nat.mul_le_mul_right _ h1⟩⟩

theorem RowOK.lower {w : World} {B B' : Nat} {v : Value} (h : RowOK w B v) (hb : B' ≤ B) : RowOK w B' v := by
  obtain ⟨A, n, c, e, hn, hr⟩ := h
  refine ⟨A, n, c, e, hn, ?_⟩
  rcases hr with h0 | ⟨g, cur, e, hg, r⟩
  · exact .inl h0
  · exact .inr ⟨g, cur, e, Nat.le_trans hb hg, r⟩

theorem RowOK.next {w w' : World} {B : Nat} {v : Value} (h : RowOK w B v) (hb : Below w.heap.size w w') : RowOK w' B v := by
  obtain ⟨A, n, c, e, hn, hr⟩ := h
  refine ⟨A, n, c, e, hn, ?_⟩
  rcases hr with h0 | ⟨g, cur, e, hg, hh, r⟩
  · exact .inl h0
  · have hlt : g < w.heap.size := (Array.getElem?_eq_some_iff.1 hh).1
    exact .inr ⟨g, cur, e, hg, (hb.block g hlt).trans hh, r⟩

theorem RowOK.set_ {w : World} {B : Nat} {v : Value} (h : RowOK w B v) (g' o : Nat) (u : Value) : RowOK (w.setCell ⟨g', o, none⟩ u) B v := by
  obtain ⟨A, n, c, e, hn, hr⟩ := h
  refine ⟨A, n, c, e, hn, ?_⟩
  rcases hr with h0 | ⟨g, cur, e, hg, hh, r⟩
  · exact .inl h0
  · by_cases hp : g = g'
    · subst hp
      exact .inr ⟨g, _, e, hg, heap_setCell_same w g o cur _ u hh, by simpa using r⟩
    · exact .inr ⟨g, cur, e, hg, (Below.heap_setCell w ⟨g', o, none⟩ u g hp).trans hh, r⟩

/-- What holds while the rows are written: old things are as they were, the list of the rows lies as it lay, every row may be written. -/
structure Inv (W wr : World) (gL : Nat) (vs : Array Value) : Prop where
  old : Below W.heap.size W wr
  lst : wr.heap[gL]? = some (.cells vs 25 (0, 0))
  row : ∀ (j : Nat) (v : Value), vs[j]? = some v → RowOK wr W.heap.size v

theorem Inv.set_ {W wr : World} {gL : Nat} {vs : Array Value} (h : Inv W wr gL vs) {g o : Nat} {cur : Array Value} (hg : W.heap.size ≤ g) (hh : wr.heap[g]? = some (.cells cur 31 (0, 0))) (u : Value) :
    Inv W (wr.setCell ⟨g, o, none⟩ u) gL vs := by
  have hne : gL ≠ g := by
    rintro rfl
    have := h.lst
    rw [hh] at this
    injection this with this
    injection this with _ ht
    exact absurd ht (by decide)
  exact ⟨h.old.setCell (p := ⟨g, o, none⟩) hg u, (Below.heap_setCell wr ⟨g, o, none⟩ u gL hne).trans h.lst, fun j v hv => (h.row j v hv).set_ _ _ u⟩

theorem Inv.cell {W wr : World} {gL : Nat} {vs : Array Value} (h : Inv W wr gL vs) (j : Nat) : wr.cell? ⟨gL, j, none⟩ = vs[j]? := cell_of_row wr gL j vs _ (0, 0) h.lst

theorem Own.form2 {w0 w : World} {v : Value} {l : List (Int × Int)} (h : Own w0 w v l) : ∃ A c, v = .slice A l.length c ∧ l.length ≤ c ∧ (A = none → c = 0) ∧ Lf w A l.length l := by
  have hl := h.1
  rcases h.1.2 with ⟨rfl, h0⟩ | ⟨g, cap, cur, rfl, _, _, h1, h2, _⟩
  · have e : l = [] := List.eq_nil_of_length_eq_zero h0
    subst e
    exact ⟨none, 0, rfl, Nat.le_refl _, fun _ => rfl, Lf.nil _ _⟩
  · exact ⟨_, cap, rfl, h1, (fun e => by cases e), Lf.of_own hl⟩

def T3 : List (Int × Int) := [(7, 7), (8, 8), (9, 9)]
theorem lf_t3 (w : World) : Lf (w.alloc (.cells #[.int .i64 7, .int .i64 7, .int .i64 8, .int .i64 8, .int .i64 9, .int .i64 9] 31)) (some ⟨w.heap.size, 0, none⟩) 3 T3 := by
  refine ⟨rfl, .inr ⟨w.heap.size, 0, rfl, fun j u hj => ?_⟩⟩
  match j, hj with
  | 0, hj => simp [T3, cellsP] at hj; subst hj; simp
  | 1, hj => simp [T3, cellsP] at hj; subst hj; simp
  | 2, hj => simp [T3, cellsP] at hj; subst hj; simp
  | 3, hj => simp [T3, cellsP] at hj; subst hj; simp
  | 4, hj => simp [T3, cellsP] at hj; subst hj; simp
  | 5, hj => simp [T3, cellsP] at hj; subst hj; simp

theorem own_empty (w0 w : World) (hb : Below w0.heap.size w0 w) : Own w0 (w.alloc (.cells #[] 31)) (.slice (some ⟨w.heap.size, 0, none⟩) 0 0) [] :=
  ⟨World.ownsRow_made w #[] 0 hb.size (Nat.zero_le _) rfl, hb.alloc hb.size _⟩

theorem halves_any (A : Option Addr) (n c : Nat) (l : List (Int × Int)) (w : World) (h : Lf w A n l) (hn : n ≤ 50000) (hc : n ≤ c) :
    Calls Try.prog 22 #[.slice A n c] w fun e w' => ∃ u v k, e = .returned (.tuple #[u, v, .int .i64 k]) ∧ Own w w' u (l.take (n / 2)) ∧ Own w w' v (l.drop (n / 2)) := by
  by_cases hz : n = 0
  · subst hz
    have e0 : l = [] := List.eq_nil_of_length_eq_zero h.len.symm
    subst e0
    exact (halves_none A c w).mono fun e w' ⟨he, hw⟩ => ⟨_, _, _, he, by subst hw; exact Own.nil _, by subst hw; exact Own.nil _⟩
  · exact (halves_some A n c l w h hn hc (by omega)).mono fun e w' ⟨u, v, he, h1, h2⟩ => ⟨u, v, _, he, h1, h2⟩

theorem t3_take (rs : List (Int × Int)) : ([] ++ rs ++ T3).take rs.length = rs := by simp
theorem t3_at (rs : List (Int × Int)) (i : Nat) (hi : i < 3) (h : rs.length + i < ([] ++ rs ++ T3).length) : ([] ++ rs ++ T3)[rs.length + i] = T3[i]'(by simpa [T3] using hi) := by
  simp [List.getElem_append_right]

/-- The three pairs behind, read. -/
theorem t3_cells {w : World} {A : Option Addr} {rs : List (Int × Int)} (h : Lf w A (rs.length + 3) ([] ++ rs ++ T3)) :
    ∃ b off, A = some ⟨b, off, none⟩ ∧ b < w.heap.size ∧ w.cell? ⟨b, off + rs.length * 2 + 1, none⟩ = some (.int .i64 7) ∧ w.cell? ⟨b, off + (rs.length + 1) * 2 + 1, none⟩ = some (.int .i64 8) ∧ w.cell? ⟨b, off + (rs.length + 2) * 2 + 1, none⟩ = some (.int .i64 9) := by
  have hl : ([] ++ rs ++ T3).length = rs.length + 3 := h.len.symm
  obtain ⟨b, off, rfl, hbl, _, c1⟩ := h.at_ (k := rs.length + 0) (by omega)
  obtain ⟨b', off', e, _, _, c2⟩ := h.at_ (k := rs.length + 1) (by omega)
  injection e with e
  injection e with e1 e2
  subst e1 e2
  obtain ⟨b', off', e, _, _, c3⟩ := h.at_ (k := rs.length + 2) (by omega)
  injection e with e
  injection e with e1 e2
  subst e1 e2
  rw [t3_at rs 0 (by omega)] at c1
  rw [t3_at rs 1 (by omega)] at c2
  rw [t3_at rs 2 (by omega)] at c3
  exact ⟨b, off, rfl, hbl, c1, c2, c3⟩

set_option maxRecDepth 100000 in
set_option maxHeartbeats 4000000 in
theorem leafKeeps_in (A : Option Addr) (n c : Nat) (zs : List Int) (x y : Int) (w : World) (h : Nums w A n zs) (hn : n ≤ 40) :
    Calls Try.prog 12 #[.slice A n c, .int .i64 x, .int .i64 y] w fun e w' => e = .returned (.bool true) ∧ Below w.heap.size w w' := by
  have hn' : ¬ (40 : Int) < (n : Int) := by omega
  go_enter Try.func12, Try.ntmps12
  go_wp2_with fail
  refine (awake_walk w).mono ?_
  rintro e w1 ⟨rfl, hb1⟩
  go_wp2_with fail
  refine (rising_walk A n c zs w1 (h.below hb1) (by omega)).mono ?_
  rintro e w2 ⟨v, rfl, hown⟩
  have hb2 := below_on hb1 hown.below
  obtain ⟨A2, c2, rfl, hc2, hnone, hlf⟩ := hown.form2
  have HN := Lib.hid hnone
  have hlen : (risingL zs).length ≤ 40 := by have := rising_len zs; have := h.len; omega
  have HA := Lib.hid (asc_rising zs)
  clear hown hb1 h hnone
  generalize risingL zs = rs at *
  have ho0 := own_empty w2 w2 (Below.refl _ _)
  have HL4 : Hid (([] ++ rs ++ T3).length = rs.length + 3) := by show _ = _; simp [T3]
  go_wp2_with (first
    | (at_builtin; refine pushAll (w0 := w2) rfl (.tmp 32) (.tmp 33) rfl _ [] rfl ho0 A2 rs.length c2 rs rfl (hlf.alloc _) (by simp; omega) (fun _ e => HN.out e) ?_; intro v3 w3 ho3 _ hs3)
    | (at_builtin; refine pushAll (w0 := w2) rfl (.tmp 34) (.tmp 38) rfl _ ([] ++ rs) rfl (ho3.alloc _) (some ⟨w3.heap.size, 0, none⟩) 3 3 T3 rfl (lf_t3 w3) (by simp [T3]; omega) (fun e => by cases e) ?_; intro v4 w4 ho4 _ hs4; obtain ⟨A4, c4, ev, hc4, _, hlf4⟩ := ho4.form; rw [HL4.out] at ev hc4 hlf4; subst ev; have hlf4' := hlf.below ho4.below; have hb4 := below_on hb2 ho4.below; obtain ⟨B4, hl4, hr4⟩ := cut_upto (c := c4) hlf4 rs.length (by omega) hc4)
    | fail)
  rw [t3_take] at hl4
  have HR := Lib.hid (t3_cells hlf4)
  have H4 := Lib.hid hl4
  have H2 := Lib.hid hlf4'
  clear ho3 ho0 ho4 hlf4 hlf4' hlf hb2
  have hpl := putL_length rs x y
  have hcl := cutL_length rs x
  have hbl := betweenL_length rs x y
  refine (put_walk B4 rs.length c4 rs x y w4 H4.out HA.out (by omega) (by omega)).mono ?_
  rintro e w5 ⟨u5, rfl, ho5⟩
  have q5 := below_on (Below.refl _ w4) ho5.below
  have r5 := ho5.row (by omega)
  have l5 := Lib.hid (H4.out.below q5)
  generalize valL rs x = vv at *
  generalize hasL rs x = hv at *
  clear ho5
  go_wp2_with fail
  refine (cut_walk B4 rs.length c4 rs x w5 l5.out HA.out (by omega) (by omega)).mono ?_
  rintro e w6 ⟨u6, rfl, ho6⟩
  have q6 := below_on q5 ho6.below
  have r6 := (ho6.row (by omega)).lower q5.size
  have s5 := r5.next ho6.below
  have l6 := Lib.hid (H4.out.below q6)
  generalize valL rs x = vv2 at *
  generalize hasL rs x = hv2 at *
  clear ho6 r5
  go_wp2_with fail
  refine (halves_any B4 rs.length c4 rs w6 l6.out (by omega) (by omega)).mono ?_
  rintro e w7 ⟨u7, v7, k7, rfl, ho7, hp7⟩
  have q7 := below_on q6 ho7.below
  have r7 := (ho7.row (by rw [List.length_take]; omega)).lower q6.size
  have r8 := (hp7.row (by rw [List.length_drop]; omega)).lower q6.size
  have t5 := s5.next ho7.below
  have t6 := r6.next ho7.below
  have l7 := Lib.hid (H4.out.below q7)
  clear ho7 hp7 s5 r6
  go_wp2_with fail
  refine (join_walk B4 B4 rs.length rs.length c4 c4 rs rs w7 l7.out l7.out (by omega)).mono ?_
  rintro e w8 ⟨u8, rfl, ho8⟩
  have q8 := below_on q7 ho8.below
  have r9 := (ho8.row (by rw [List.length_append]; omega)).lower q7.size
  have x5 := t5.next ho8.below
  have x6 := t6.next ho8.below
  have x7 := r7.next ho8.below
  have x8 := r8.next ho8.below
  have l8 := Lib.hid (H4.out.below q8)
  clear ho8 t5 t6 r7 r8
  go_wp2_with fail
  refine (between_walk B4 rs.length c4 rs x y w8 l8.out (by omega)).mono ?_
  rintro e w9 ⟨u9, rfl, ho9⟩
  have q9 := below_on q8 ho9.below
  have y10 := (ho9.row (by omega)).lower q8.size
  have y5 := x5.next ho9.below
  have y6 := x6.next ho9.below
  have y7 := x7.next ho9.below
  have y8 := x8.next ho9.below
  have y9 := r9.next ho9.below
  have HI : Hid (Inv w4 (w9.alloc (.cells #[u5, u6, u7, v7, u8, u9] 25)) w9.heap.size #[u5, u6, u7, v7, u8, u9]) := by
    have ba := (Below.refl _ w9).alloc (Nat.le_refl _) (.cells #[u5, u6, u7, v7, u8, u9] 25)
    refine ⟨below_on q9 ba, heap_alloc_new w9 _, fun j v hj => ?_⟩
    match j, hj with
    | 0, hj => simp at hj; subst hj; exact y5.next ba
    | 1, hj => simp at hj; subst hj; exact y6.next ba
    | 2, hj => simp at hj; subst hj; exact y7.next ba
    | 3, hj => simp at hj; subst hj; exact y8.next ba
    | 4, hj => simp at hj; subst hj; exact y9.next ba
    | 5, hj => simp at hj; subst hj; exact y10.next ba
  obtain ⟨a5, n5, z5, rfl, d5⟩ := y5
  clear d5
  obtain ⟨a6, n6, z6, rfl, d6⟩ := y6
  clear d6
  obtain ⟨a7, n7, z7, rfl, d7⟩ := y7
  clear d7
  obtain ⟨a8, n8, z8, rfl, d8⟩ := y8
  clear d8
  obtain ⟨a9, n9, z9, rfl, d9⟩ := y9
  clear d9
  obtain ⟨a10, n10, z10, rfl, d10⟩ := y10
  clear d10
  clear x5 x6 x7 x8 r9 ho9 q5 q6 q7 q8 q9 l5 l6 l7 l8
  go_wp2
  go_loopw [77] (fun i wr => ∃ k : Nat, k ≤ 6 ∧ i = .int .i64 (k : Int) ∧ Hid (Inv w4 wr w9.heap.size #[.slice a5 n5 z5, .slice a6 n6 z6, .slice a7 n7 z7, .slice a8 n8 z8, .slice a9 n9 z9, .slice a10 n10 z10])) (fun i _ => 6 - (intOf i).toNat)
  case atStart => exact ⟨0, by omega, rfl, HI⟩
  case round =>
    obtain ⟨k, hk, rfl, hI⟩ := hrel
    clear HI
    by_cases hlt : k < 6
    · obtain ⟨v, hv⟩ : ∃ v, (#[.slice a5 n5 z5, .slice a6 n6 z6, .slice a7 n7 z7, .slice a8 n8 z8, .slice a9 n9 z9, .slice a10 n10 z10] : Array Value)[k]? = some v := ⟨_, Array.getElem?_eq_getElem (by simpa using hlt)⟩
      have d1 := (hI.out.cell k).trans hv
      obtain ⟨Ax, nx, cx, rfl, hnx, _⟩ := hI.out.row k v hv
      have HV := Lib.hid hv
      clear hv
      go_wp2
      go_loopw [83] (fun i wr => ∃ j : Nat, j ≤ nx ∧ i = .int .i64 (j : Int) ∧ Hid (Inv w4 wr w9.heap.size #[.slice a5 n5 z5, .slice a6 n6 z6, .slice a7 n7 z7, .slice a8 n8 z8, .slice a9 n9 z9, .slice a10 n10 z10])) (fun i _ => nx - (intOf i).toNat)
      case atStart => exact ⟨0, by omega, rfl, hI⟩
      case round =>
        obtain ⟨j, hj, rfl, hJ⟩ := hrel
        clear hI d1
        by_cases hjn : j < nx
        · obtain ⟨Ay, ny, cy, ey, _, hr⟩ := hJ.out.row k _ HV.out
          injection ey with ea en ec
          subst ea en ec
          rcases hr with h0 | ⟨g, cur, rfl, hg, hh, hsz⟩
          · omega
          · have hc1 : j * 2 < cur.size := by omega
            have hc2 : j * 2 + 1 < cur.size := by omega
            have e1 : wr.cell? ⟨g, j * 2, none⟩ = some cur[j * 2] := by rw [cell_of_row wr g _ cur _ (0, 0) hh]; exact Array.getElem?_eq_getElem hc1
            have e2 : wr.cell? ⟨g, j * 2 + 1, none⟩ = some cur[j * 2 + 1] := by rw [cell_of_row wr g _ cur _ (0, 0) hh]; exact Array.getElem?_eq_getElem hc2
            have f1 : wr.frozen? ⟨g, j * 2, none⟩ = false := frozen_of_row wr g _ cur _ hh
            have f2 : wr.frozen? ⟨g, j * 2 + 1, none⟩ = false := frozen_of_row wr g _ cur _ hh
            have HJ2 : Hid (Inv w4 ((wr.setCell ⟨g, j * 2, none⟩ (.int .i64 1)).setCell ⟨g, j * 2 + 1, none⟩ (.int .i64 (-1))) w9.heap.size #[.slice a5 n5 z5, .slice a6 n6 z6, .slice a7 n7 z7, .slice a8 n8 z8, .slice a9 n9 z9, .slice a10 n10 z10]) := (hJ.out.set_ hg hh _).set_ hg (heap_setCell_same wr g _ cur _ _ hh) _
            obtain ⟨t1, e1'⟩ : ∃ t, wr.cell? ⟨g, j * 2, none⟩ = some t := ⟨_, e1⟩
            obtain ⟨t2, e2'⟩ : ∃ t, wr.cell? ⟨g, j * 2 + 1, none⟩ = some t := ⟨_, e2⟩
            clear e1 e2 hh hsz hJ
            go_wp2
            go_roundw
            case rel => exact ⟨j + 1, by omega, by go_num, HJ2⟩
            case measure => simp [intOf]; omega
        · go_wp2
          go_roundw
          case rel => exact ⟨k + 1, by omega, by go_num, hJ⟩
          case measure => simp [intOf]; omega
    · have l9 := H4.out.below hI.out.old
      have l10 := H2.out.below hI.out.old
      have hbb := below_on hb4 hI.out.old
      obtain ⟨b, off, rfl, hbl1, k1, k2, k3⟩ := HR.out
      have m1 := (hI.out.old.cell (p := ⟨b, off + rs.length * 2 + 1, none⟩) hbl1).trans k1
      have m2 := (hI.out.old.cell (p := ⟨b, off + (rs.length + 1) * 2 + 1, none⟩) hbl1).trans k2
      have m3 := (hI.out.old.cell (p := ⟨b, off + (rs.length + 2) * 2 + 1, none⟩) hbl1).trans k3
      have hbl2 : b < wr.heap.size := Nat.lt_of_lt_of_le hbl1 hI.out.old.size
      clear k1 k2 k3 HR hI
      go_wp2_with fail
      refine (same_walk B4 A2 rs.length c4 c2 rs wr l9 l10 (by omega)).mono ?_
      rintro e w10 ⟨rfl, hb10⟩
      have o1 := (hb10.cell (p := ⟨b, off + rs.length * 2 + 1, none⟩) hbl2).trans m1
      have o2 := (hb10.cell (p := ⟨b, off + (rs.length + 1) * 2 + 1, none⟩) hbl2).trans m2
      have o3 := (hb10.cell (p := ⟨b, off + (rs.length + 2) * 2 + 1, none⟩) hbl2).trans m3
      clear m1 m2 m3
      go_wp2
      go_ret
      exact ⟨rfl, below_on hbb hb10⟩

set_option maxHeartbeats 1000000 in
theorem leafKeeps_walk (A : Option Addr) (n c : Nat) (zs : List Int) (x y : Int) (w : World) (h : Nums w A n zs) :
    Calls Try.prog 12 #[.slice A n c, .int .i64 x, .int .i64 y] w fun e w' => e = .returned (.bool true) ∧ Below w.heap.size w w' := by
  by_cases hn : n ≤ 40
  · exact leafKeeps_in A n c zs x y w h hn
  · have hn' : (40 : Int) < (n : Int) := by omega
    go_enter Try.func12, Try.ntmps12
    go_wp2_with fail
    refine (awake_walk w).mono ?_
    rintro e w1 ⟨rfl, hb1⟩
    go_wp2
    go_ret
    exact ⟨rfl, hb1⟩
end Go.Proofs.Ytfpnchnijfhjhaa
