/-
  The walk of LeafChains: it returns true, for every input, and changes nothing that was there.
-/
import Derived.Test.YtfpnchnijfhjhaaLaws1
import Derived.Test.YtfpnchnijfhjhaaOpen
namespace Go.Proofs.Ytfpnchnijfhjhaa
open Go.ChangeShapes Go.WideShapes Go.ChangeAt Go.RowKit
set_option linter.unusedVariables false

/-- v is a slice that reads as l. -/
def IsLf (w : World) (v : Value) (l : List (Int × Int)) : Prop := ∃ A c, v = .slice A l.length c ∧ l.length ≤ c ∧ Lf w A l.length l
theorem IsLf.below {w w' : World} {v : Value} {l : List (Int × Int)} (h : IsLf w v l) (hb : Below w.heap.size w w') : IsLf w' v l := by
  obtain ⟨A, c, e, hc, hl⟩ := h
  exact ⟨A, c, e, hc, hl.below hb⟩
theorem Own.is {w0 w : World} {v : Value} {l : List (Int × Int)} (h : Own w0 w v l) : IsLf w v l := by
  obtain ⟨A, c, e, hc, _, hl⟩ := h.form
  exact ⟨A, c, e, hc, hl⟩

theorem Chs.len {w : World} {A : Option Addr} {n : Nat} {l : List (Bool × Int × Int)} (h : Chs w A n l) : n = l.length := h.1
theorem Chs.at_ {w : World} {A : Option Addr} {n : Nat} {l : List (Bool × Int × Int)} (h : Chs w A n l) {k : Nat} (hk : k < n) :
    ∃ (b off : Nat) (q : Bool × Int × Int), A = some ⟨b, off, none⟩ ∧ b < w.heap.size ∧ w.cell? ⟨b, off + k * 3, none⟩ = some (.bool q.1) ∧ w.cell? ⟨b, off + k * 3 + 1, none⟩ = some (.int .i64 q.2.1) ∧ w.cell? ⟨b, off + k * 3 + 2, none⟩ = some (.int .i64 q.2.2) := by
  have hl := h.1
  rcases h.2 with rfl | ⟨b, off, rfl, hc⟩
  · simp at hl; omega
  · obtain ⟨c1, c2, c3⟩ := hc k _ (List.getElem?_eq_getElem (by omega))
    exact ⟨b, off, _, rfl, World.block_lt_of_cell? w _ c1, c1, c2, c3⟩
theorem Chs.below {w w' : World} {A : Option Addr} {n : Nat} {l : List (Bool × Int × Int)} (h : Chs w A n l) (hb : Below w.heap.size w w') : Chs w' A n l := by
  refine ⟨h.1, ?_⟩
  rcases h.2 with hn | ⟨b, off, rfl, hc⟩
  · exact .inl hn
  · refine .inr ⟨b, off, rfl, fun i q hq => ?_⟩
    obtain ⟨c1, c2, c3⟩ := hc i q hq
    have hbl : b < w.heap.size := World.block_lt_of_cell? w _ c1
    exact ⟨(hb.cell (p := ⟨b, off + i * 3, none⟩) hbl).trans c1, (hb.cell (p := ⟨b, off + i * 3 + 1, none⟩) hbl).trans c2, (hb.cell (p := ⟨b, off + i * 3 + 2, none⟩) hbl).trans c3⟩

set_option maxHeartbeats 2000000 in
theorem leafChains_in (A B : Option Addr) (n m c d : Nat) (zs : List Int) (cs : List (Bool × Int × Int)) (w : World) (h : Nums w A n zs) (h' : Chs w B m cs) (hn : n ≤ 40) (hm : m ≤ 40) :
    Calls Try.prog 10 #[.slice A n c, .slice B m d] w fun e w' => e = .returned (.bool true) ∧ Below w.heap.size w w' := by
  have hn' : ¬ (40 : Int) < (n : Int) := by omega
  have hm' : ¬ (40 : Int) < (m : Int) := by omega
  go_enter Try.func10, Try.ntmps10
  go_wp2_with fail
  refine (awake_walk w).mono ?_
  rintro e w1 ⟨rfl, hb1⟩
  go_wp2_with fail
  refine (rising_walk A n c zs w1 (h.below hb1) (by omega)).mono ?_
  rintro e w2 ⟨v, rfl, hown⟩
  have hb2 := below_on hb1 hown.below
  have his := hown.is
  have hlen : (risingL zs).length ≤ 40 := by have := rising_len zs; have := h.len; omega
  have hasc := asc_rising zs
  have HC := Lib.hid (h'.below hb2)
  clear hown hb1 h h'
  generalize risingL zs = rs at *
  go_wp2
  go_loopw [5, 6, 24] (fun u v i wr => ∃ (k : Nat) (l : List (Int × Int)), k ≤ m ∧ i = .int .i64 k ∧ l.length ≤ 40 + k ∧ Hid (Asc l) ∧ Hid (IsLf wr u l) ∧ Hid (IsLf wr v l) ∧ Below w.heap.size w wr ∧ Below w2.heap.size w2 wr) (fun _ _ i _ => m - (intOf i).toNat)
  case atStart => exact ⟨0, rs, Nat.zero_le _, rfl, by omega, hasc, his, his, hb2, Below.refl _ _⟩
  case round =>
    obtain ⟨k, l, hk, rfl, hll, HA, H1, H2, hb, hb'⟩ := hrel
    clear his hasc hb2 hlen
    obtain ⟨A1, c1, rfl, hc1, hlf1⟩ := H1.out
    obtain ⟨A2, c2, rfl, hc2, hlf2⟩ := H2.out
    clear H1 H2
    by_cases hlt : k < m
    · obtain ⟨b, off, q, rfl, hbl, k1, k2, k3⟩ := HC.out.at_ hlt
      have d1 := (hb'.cell (p := ⟨b, off + k * 3, none⟩) hbl).trans k1
      have d2 := (hb'.cell (p := ⟨b, off + k * 3 + 1, none⟩) hbl).trans k2
      have d3 := (hb'.cell (p := ⟨b, off + k * 3 + 2, none⟩) hbl).trans k3
      have hbl' : b < wr.heap.size := Nat.lt_of_lt_of_le hbl hb'.size
      clear k1 k2 k3
      obtain ⟨qo, qk, qv⟩ := q
      cases qo with
      | true =>
        have hres : (cutL l qk).length ≤ 40 + (k + 1) := by have := cutL_length l qk; omega
        have HA2 : Hid (Asc (cutL l qk)) := asc_cutL HA.out qk
        have HB : Hid (ascB (cutL l qk) = true) := ascB_true (asc_cutL HA.out qk)
        go_wp2_with fail
        refine (cut_walk A1 l.length c1 l qk _ (hlf1.alloc _) HA.out (by omega) hc1).mono ?_
        rintro e w3 ⟨u, rfl, hown3⟩
        have e1 := hown3.below.cell (p := ⟨wr.heap.size, 1, none⟩) (by simp)
        have e2 := hown3.below.cell (p := ⟨wr.heap.size, 2, none⟩) (by simp)
        simp at e1 e2
        have hba : Below wr.heap.size wr w3 := ((Below.refl _ wr).alloc (Nat.le_refl _) _).trans (hown3.below.mono (by simp))
        have hlf3 := hlf2.below hba
        have hb3 := below_on hb hba
        have hb3' := below_on hb' hba
        have his3 := hown3.is
        generalize valL l qk = vv at *
        generalize hasL l qk = hv at *
        clear hown3 hlf1 hlf2 hba d1 d2 d3
        go_wp2_with fail
        refine (lawCut_walk A2 l.length c2 l qk w3 hlf3 (by omega)).mono ?_
        rintro e w4 ⟨u2, rfl, hown4⟩
        have his4 := his3.below hown4.below
        have his5 := Lib.hid hown4.is
        have hb4 := below_on hb3 hown4.below
        have hb4' := below_on hb3' hown4.below
        obtain ⟨A5, c5, rfl, hc5, hlf5⟩ := his4
        clear hown4 his3 hlf3 e1 e2
        generalize cutL l qk = l2 at *
        go_wp2_with fail
        refine (rises_walk A5 l2.length c5 l2 w4 hlf5 (by omega)).mono ?_
        rintro e w5 ⟨rfl, hb5⟩
        rw [HB.out]
        have HI5 : Hid (IsLf w5 (.slice A5 l2.length c5) l2) := ⟨A5, c5, rfl, hc5, hlf5.below hb5⟩
        have HI6 : Hid (IsLf w5 u2 l2) := his5.out.below hb5
        have hb6 := below_on hb4 hb5
        have hb6' := below_on hb4' hb5
        clear hlf5 hb5 hb4 hb4' hb3 hb3'
        go_wp2
        go_roundw
        case rel => exact ⟨k + 1, l2, by omega, by go_num, hres, HA2, HI5, HI6, hb6, hb6'⟩
        case measure => simp [intOf]; omega
      | false =>
        have hres : (putL l qk qv).length ≤ 40 + (k + 1) := by have := putL_length l qk qv; omega
        have HA2 : Hid (Asc (putL l qk qv)) := asc_putL HA.out qk qv
        have HB : Hid (ascB (putL l qk qv) = true) := ascB_true (asc_putL HA.out qk qv)
        go_wp2_with fail
        refine (put_walk A1 l.length c1 l qk qv _ (hlf1.alloc _) HA.out (by omega) hc1).mono ?_
        rintro e w3 ⟨u, rfl, hown3⟩
        have e1 := hown3.below.cell (p := ⟨wr.heap.size, 1, none⟩) (by simp)
        have e2 := hown3.below.cell (p := ⟨wr.heap.size, 2, none⟩) (by simp)
        simp at e1 e2
        have hba : Below wr.heap.size wr w3 := ((Below.refl _ wr).alloc (Nat.le_refl _) _).trans (hown3.below.mono (by simp))
        have hlf3 := hlf2.below hba
        have hb3 := below_on hb hba
        have hb3' := below_on hb' hba
        have his3 := hown3.is
        generalize valL l qk = vv at *
        generalize hasL l qk = hv at *
        clear hown3 hlf1 hlf2 hba d1 d2 d3
        go_wp2_with fail
        refine (lawPut_walk A2 l.length c2 l qk qv w3 hlf3 (by omega)).mono ?_
        rintro e w4 ⟨u2, rfl, hown4⟩
        have his4 := his3.below hown4.below
        have his5 := Lib.hid hown4.is
        have hb4 := below_on hb3 hown4.below
        have hb4' := below_on hb3' hown4.below
        obtain ⟨A5, c5, rfl, hc5, hlf5⟩ := his4
        clear hown4 his3 hlf3 e1 e2
        generalize putL l qk qv = l2 at *
        go_wp2_with fail
        refine (rises_walk A5 l2.length c5 l2 w4 hlf5 (by omega)).mono ?_
        rintro e w5 ⟨rfl, hb5⟩
        rw [HB.out]
        have HI5 : Hid (IsLf w5 (.slice A5 l2.length c5) l2) := ⟨A5, c5, rfl, hc5, hlf5.below hb5⟩
        have HI6 : Hid (IsLf w5 u2 l2) := his5.out.below hb5
        have hb6 := below_on hb4 hb5
        have hb6' := below_on hb4' hb5
        clear hlf5 hb5 hb4 hb4' hb3 hb3'
        go_wp2
        go_roundw
        case rel => exact ⟨k + 1, l2, by omega, by go_num, hres, HA2, HI5, HI6, hb6, hb6'⟩
        case measure => simp [intOf]; omega
    · go_wp2_with fail
      refine (same_walk A1 A2 l.length c1 c2 l wr hlf1 hlf2 (by omega)).mono ?_
      rintro e w3 ⟨rfl, hb3⟩
      go_wp2
      go_ret
      exact ⟨rfl, below_on hb hb3⟩

set_option maxHeartbeats 1000000 in
theorem leafChains_walk (A B : Option Addr) (n m c d : Nat) (zs : List Int) (cs : List (Bool × Int × Int)) (w : World) (h : Nums w A n zs) (h' : Chs w B m cs) :
    Calls Try.prog 10 #[.slice A n c, .slice B m d] w fun e w' => e = .returned (.bool true) ∧ Below w.heap.size w w' := by
  by_cases hn : n ≤ 40
  · by_cases hm : m ≤ 40
    · exact leafChains_in A B n m c d zs cs w h h' hn hm
    · have hn' : ¬ (40 : Int) < (n : Int) := by omega
      have hm' : (40 : Int) < (m : Int) := by omega
      go_enter Try.func10, Try.ntmps10
      go_wp2_with fail
      refine (awake_walk w).mono ?_
      rintro e w1 ⟨rfl, hb1⟩
      go_wp2
      go_ret
      exact ⟨rfl, hb1⟩
  · have hn' : (40 : Int) < (n : Int) := by omega
    go_enter Try.func10, Try.ntmps10
    go_wp2_with fail
    refine (awake_walk w).mono ?_
    rintro e w1 ⟨rfl, hb1⟩
    go_wp2
    go_ret
    exact ⟨rfl, hb1⟩
end Go.Proofs.Ytfpnchnijfhjhaa
