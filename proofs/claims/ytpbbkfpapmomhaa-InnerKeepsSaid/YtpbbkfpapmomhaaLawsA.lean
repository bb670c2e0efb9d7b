/-
  The walks of InnerAny and InnerWith: each returns true, for every input, and changes nothing that was there.
-/
import Derived.Test.YtpbbkfpapmomhaaFns3
import Derived.Test.YtpbbkfpapmomhaaWith
import Derived.Test.YtpbbkfpapmomhaaAbsorb
import Derived.Test.YtpbbkfpapmomhaaMerged
namespace Go.Proofs.Ytpbbkfpapmomhaa
open Go.ChangeShapes Go.WideShapes Go.ChangeAt Go.RowKit
set_option linter.unusedVariables false
set_option linter.unusedSimpArgs false

theorem short_one (g : Nat) (A B : Option Addr) (n c m d : Nat) (w : World) (h0 : w.cell? ⟨g, 0, none⟩ = some (.slice A n c)) (h1 : w.cell? ⟨g, 1, none⟩ = some (.slice B m d)) :
    Calls Try.prog 18 #[.slice (some ⟨g, 0, none⟩) 1 1] w fun e w' => e = .returned (.bool (decide (n ≤ 40 ∧ m ≤ 40))) ∧ Below w.heap.size w w' := by
  have h : PtsI w g [(A, n, c, B, m, d)] := by
    intro j p hj
    match j, hj with
    | 0, hj => simp at hj; subst hj; exact ⟨h0, h1⟩
  have := short_walk g 1 1 _ w h rfl (by omega)
  simpa [fewB] using this
theorem short_two (g : Nat) (A B A' B' : Option Addr) (n c m d n' c' m' d' : Nat) (w : World) (h0 : w.cell? ⟨g, 0, none⟩ = some (.slice A n c)) (h1 : w.cell? ⟨g, 1, none⟩ = some (.slice B m d)) (h2 : w.cell? ⟨g, 2, none⟩ = some (.slice A' n' c')) (h3 : w.cell? ⟨g, 3, none⟩ = some (.slice B' m' d')) :
    Calls Try.prog 18 #[.slice (some ⟨g, 0, none⟩) 2 2] w fun e w' => e = .returned (.bool (decide (n ≤ 40 ∧ m ≤ 40) && decide (n' ≤ 40 ∧ m' ≤ 40))) ∧ Below w.heap.size w w' := by
  have h : PtsI w g [(A, n, c, B, m, d), (A', n', c', B', m', d')] := by
    intro j p hj
    match j, hj with
    | 0, hj => simp at hj; subst hj; exact ⟨h0, h1⟩
    | 1, hj => simp at hj; subst hj; exact ⟨h2, h3⟩
  have := short_walk g 2 2 _ w h rfl (by omega)
  simpa [fewB] using this

/-- Same, of two that read alike. -/
theorem alike_walk {A B A' B' : Option Addr} {n c m d n' c' m' d' : Nat} {ks ws : List Int} {w : World} (h1 : Sl w A n c ks) (h2 : Sl w B m d ws) (h3 : Sl w A' n' c' ks) (h4 : Sl w B' m' d' ws) (hn : n ≤ 1000) (hm : m ≤ 1000) :
    Calls Try.prog 21 #[inn A n c B m d, inn A' n' c' B' m' d'] w fun e w' => e = .returned (.bool true) ∧ Below w.heap.size w w' := by
  obtain rfl : n = n' := h1.len.trans h3.len.symm
  obtain rfl : m = m' := h2.len.trans h4.len.symm
  exact lawSame_walk A B A' B' n c m d c' d' ks ws w h1 h2 h3 h4 hn hm

theorem boxed0 (w : World) (x y : Value) : ∃ (W : World), w.alloc (.cells #[x, y] 26) = W ∧ Below w.heap.size w W ∧ Box W w.heap.size x y := ⟨_, rfl, below_new w _, Box.new w rfl x y _⟩

/-- One way of the variable's written. -/
theorem St.put1 {W w : World} {O g N f : Nat} {a b u : Value} {ks ws : List Int} (h : St W O a b u (.slice (some ⟨g, 0, none⟩) N f) ks ws w) (k : Nat) (z : Int) : St W O a b u (.slice (some ⟨g, 0, none⟩) N f) ks (ws.set k z) (w.setCell ⟨g, k, none⟩ (.int .i64 z)) := by
  have y := h.ways.set_ k z
  have hg : W.heap.size ≤ g := (World.ownsRow.lt h.ways g rfl).1
  have hne : g ≠ O := fun e => h.apartO h.ways (by decide) (by rw [← e]; rfl)
  exact ⟨(heap_setCell_other w ⟨g, k, none⟩ O _ (fun e => hne e.symm)).trans h.var, h.keys.grown y.2 (by have := h.keys.apart h.ways (by decide); simpa [Value.ownBlock] using this), y.1, h.low, h.below.setCell (p := ⟨g, k, none⟩) hg _⟩

set_option maxHeartbeats 1000000 in
theorem innerAny_walk (A B : Option Addr) (n c m d : Nat) (ks ws : List Int) (x : Int) (w : World) (hk : Sl w A n c ks) (hw : Sl w B m d ws) :
    Calls Try.prog 4 #[inn A n c B m d, .int .i64 x] w fun e w' => e = .returned (.bool true) ∧ Below w.heap.size w w' := by
  go_enter Try.func4, Try.ntmps4
  go_wp2_with fail
  obtain ⟨W0, hW, hb0, HN0⟩ := boxed0 w (.slice A n c) (.slice B m d)
  rw [hW]
  clear hW
  refine (awake_walk W0).mono ?_
  rintro e w1 ⟨rfl, p1⟩
  obtain ⟨c0, c1⟩ := HN0.below p1
  go_wp2_with fail
  refine (short_one w1.heap.size A B n c m d _ (by simp) (by simp)).mono ?_
  rintro e V ⟨rfl, p2⟩
  have pV : Below W0.heap.size W0 V := p1.trans (((below_new w1 _).trans (p2.mono (by simp))).mono p1.size)
  have hbV := hb0.trans (pV.mono hb0.size)
  have HN := HN0.below pV
  clear c0 c1 p1 p2 hb0
  by_cases hfew : n ≤ 40 ∧ m ≤ 40
  case neg =>
    rw [decide_eq_false hfew]
    go_wp2
    go_ret
    exact ⟨rfl, hbV⟩
  rw [decide_eq_true hfew]
  obtain ⟨hn, hm⟩ := hfew
  have Hk := hk.below hbV
  have Hw := hw.below hbV
  obtain ⟨c0, c1⟩ := id HN
  have sV : w.heap.size < V.heap.size := World.block_lt_of_cell? V _ c0
  clear hk hw pV HN0
  go_wp2_with fail
  refine (way_walk A B n c m d ks x V Hk (by omega) (by omega)).mono ?_
  rintro e w3 ⟨r, rfl, _, p3⟩
  have hb3 := hbV.trans (p3.mono hbV.size)
  obtain ⟨d0, d1⟩ := HN.below p3
  clear c0 c1
  by_cases hm0 : m = 0
  · subst hm0
    have h0 : heldW r 0 = 0 := by unfold heldW; omega
    rw [h0]
    go_wp2
    go_ret
    exact ⟨rfl, hb3⟩
  · have hr : heldW r m < m := by unfold heldW; omega
    have hmb : ((m : Int) == 0) = false := by rw [beq_eq_false_iff_ne]; omega
    generalize heldW r m = j at *
    have i0 : (0 : Int) ≤ (j : Int) := by omega
    have i1 : (j : Int) < (m : Int) := by omega
    go_wp2
    go_ret
    refine ⟨ret_bool ?_, hb3⟩
    simp <;> omega

set_option maxHeartbeats 2000000 in
theorem innerWith_walk (A B : Option Addr) (n c m d : Nat) (ks ws : List Int) (i r : Int) (w : World) (hk : Sl w A n c ks) (hw : Sl w B m d ws) :
    Calls Try.prog 5 #[inn A n c B m d, .int .i64 i, .int .i64 r] w fun e w' => e = .returned (.bool true) ∧ Below w.heap.size w w' := by
  go_enter Try.func5, Try.ntmps5
  go_wp2_with fail
  obtain ⟨W0, hW, hb0, HN0⟩ := boxed0 w (.slice A n c) (.slice B m d)
  rw [hW]
  clear hW
  refine (awake_walk W0).mono ?_
  rintro e w1 ⟨rfl, p1⟩
  obtain ⟨c0, c1⟩ := HN0.below p1
  go_wp2_with fail
  refine (short_one w1.heap.size A B n c m d _ (by simp) (by simp)).mono ?_
  rintro e V ⟨rfl, p2⟩
  have pV : Below W0.heap.size W0 V := p1.trans (((below_new w1 _).trans (p2.mono (by simp))).mono p1.size)
  have hbV := hb0.trans (pV.mono hb0.size)
  have HN := HN0.below pV
  clear c0 c1 p1 p2 hb0
  by_cases hfew : n ≤ 40 ∧ m ≤ 40
  case neg =>
    rw [decide_eq_false hfew]
    go_wp2
    go_ret
    exact ⟨rfl, hbV⟩
  rw [decide_eq_true hfew]
  obtain ⟨hn, hm⟩ := hfew
  have Hk := hk.below hbV
  have Hw := hw.below hbV
  obtain ⟨c0, c1⟩ := id HN
  have sV : w.heap.size < V.heap.size := World.block_lt_of_cell? V _ c0
  clear hk hw pV HN0
  go_wp2_with fail
  refine (copy_walk A B n c m d ks ws V Hk Hw (by omega) (by omega)).mono ?_
  rintro e w3 ⟨u, v, rfl, g1, g2, p3⟩
  obtain ⟨d0, d1⟩ := HN.below p3
  have s3 : w.heap.size < w3.heap.size := World.block_lt_of_cell? w3 _ d0
  have HWL := Lib.hid Hw.len
  obtain ⟨F1, N1, f1, rfl⟩ := g1.shape
  obtain ⟨F2, N2, f2, rfl⟩ := g2.shape
  clear c0 c1
  go_wp2_with fail
  obtain ⟨X, O, hX, hO, st⟩ : ∃ (X : World) (O : Nat), w3.alloc (.cells #[.slice F1 N1 f1, .slice F2 N2 f2] 26) = X ∧ w3.heap.size = O ∧ St V O (.slice F1 N1 f1) (.slice F2 N2 f2) (.slice F1 N1 f1) (.slice F2 N2 f2) ks ws X := ⟨_, _, rfl, rfl, St.new g1 g2 p3 rfl⟩
  rw [hX, hO]
  clear hX hO g1 g2 p3 d0 d1 s3
  refine (in_walk A B n c m d i X (by omega) (by omega)).mono ?_
  rintro e w4 ⟨rfl, p4⟩
  have st4 := st.next p4
  clear st p4
  have low := st4.low
  have l1 : w.heap.size ≠ O := by omega
  have l2 : O ≠ w.heap.size := by omega
  cases hin : (fitsB n m && hasB m i) with
  | false =>
    have HI := Lib.hid hin
    clear hin
    obtain ⟨d0, d1⟩ := HN.below st4.below
    have o0 := st4.cell0
    have o1 := st4.cell1
    go_wp2
    have HF : Hid (∀ w', Below w4.heap.size w4 w' → (w'.cell? ⟨w.heap.size, 0, none⟩ = some (.slice A n c) ∧ w'.cell? ⟨w.heap.size, 1, none⟩ = some (.slice B m d) ∧ w'.cell? ⟨O, 0, none⟩ = some (.slice F1 N1 f1) ∧ w'.cell? ⟨O, 1, none⟩ = some (.slice F2 N2 f2))) := fun w' h => ⟨below_read h d0, below_read h d1, below_read h o0, below_read h o1⟩
    go_region_held3 (fun w' => w'.cell? ⟨w.heap.size, 0, none⟩ = some (.slice A n c) ∧ w'.cell? ⟨w.heap.size, 1, none⟩ = some (.slice B m d) ∧ w'.cell? ⟨O, 0, none⟩ = some (.slice F1 N1 f1) ∧ w'.cell? ⟨O, 1, none⟩ = some (.slice F2 N2 f2)) (first | (refine HF.out _ ?_; go_grown; done) | go_keep) (first
      | (go_at_call 22
         refine (with_out A B n c m d ks ws i r _ ?_ ?_ (by omega) (by omega) HI.out).mono ?_; (· exact (Hk.below st4.below).below (by go_grown)); (· exact (Hw.below st4.below).below (by go_grown)); rintro e w5 ⟨x1, x2, rfl, g1, g2, p5⟩; obtain ⟨G1, M1, h1, rfl⟩ := g1.shape; obtain ⟨G2, M2, h2, rfl⟩ := g2.shape
         have q5 : Below w4.heap.size w4 w5 := Below.trans (by go_grown) p5
         have s1 := g1.sl
         have s2 := g2.sl
         have HS1 : Hid (M1 = n ∧ M2 = m) := ⟨s1.len.trans Hk.len.symm, s2.len.trans Hw.len.symm⟩
         have st5 := st4.next q5
         clear g1 g2 p5)
      | (go_at_call 21
         refine (alike_walk s1 s2 st5.keys.sl st5.ways.sl (by rw [HS1.out.1]; omega) (by rw [HS1.out.2]; omega)).mono ?_
         rintro e w6 ⟨rfl, p6⟩
         have q6 := q5.trans (p6.mono q5.size))
      )
    all_goals go_wp2
    all_goals go_ret
    all_goals exact ⟨rfl, hbV.trans ((st4.below.trans (q6.mono st4.size)).mono hbV.size)⟩
  | true =>
    obtain ⟨hf, hh⟩ : fitsB n m = true ∧ hasB m i = true := by simpa using hin
    have h0 : 0 ≤ i ∧ i < (m : Int) := by simpa [hasB] using hh
    obtain ⟨k, rfl⟩ := Int.eq_ofNat_of_zero_le h0.1
    have hkm : k < m := by omega
    have HFT := Lib.hid hf
    clear hin hf hh h0
    obtain ⟨g, f9, uu, ev, hg0, hg1, hcap, e0, z0, _⟩ := st4.ways.put (k := k) (by rw [← HWL.out]; exact hkm)
    injection ev with ev1 ev2 ev3
    subst ev1 ev2 ev3
    rw [← HWL.out] at st4 ⊢
    have st5 := st4.put1 k r
    have ST5 := Lib.hid st5
    obtain ⟨d0, d1⟩ := HN.below st4.below
    have o0 := st4.cell0
    have o1 := st4.cell1
    have hki : (k : Int) < (m : Int) := by omega
    have hk0 : (0 : Int) ≤ (k : Int) := by omega
    have l3 : g ≠ O := fun e => st4.apartO st4.ways (by decide) (by rw [← e]; rfl)
    have l4 : O ≠ g := fun e => l3 e.symm
    clear st5
    go_wp2
    obtain ⟨Y, hY, st6⟩ : ∃ Y : World, w4.setCell ⟨g, k, none⟩ (.int .i64 r) = Y ∧ St V O (.slice F1 N1 f1) (.slice (some ⟨g, 0, none⟩) m f2) (.slice F1 N1 f1) (.slice (some ⟨g, 0, none⟩) m f2) ks (ws.set k r) Y := ⟨_, rfl, ST5.out⟩
    rw [hY]
    clear hY ST5 st4 d0 d1 o0 o1 e0 z0 hg1
    obtain ⟨d0, d1⟩ := HN.below st6.below
    have o0 := st6.cell0
    have o1 := st6.cell1
    have HF : Hid (∀ w', Below Y.heap.size Y w' → (w'.cell? ⟨w.heap.size, 0, none⟩ = some (.slice A n c) ∧ w'.cell? ⟨w.heap.size, 1, none⟩ = some (.slice B m d) ∧ w'.cell? ⟨O, 0, none⟩ = some (.slice F1 N1 f1) ∧ w'.cell? ⟨O, 1, none⟩ = some (.slice (some ⟨g, 0, none⟩) m f2))) := fun w' h => ⟨below_read h d0, below_read h d1, below_read h o0, below_read h o1⟩
    go_region_held3 (fun w' => w'.cell? ⟨w.heap.size, 0, none⟩ = some (.slice A n c) ∧ w'.cell? ⟨w.heap.size, 1, none⟩ = some (.slice B m d) ∧ w'.cell? ⟨O, 0, none⟩ = some (.slice F1 N1 f1) ∧ w'.cell? ⟨O, 1, none⟩ = some (.slice (some ⟨g, 0, none⟩) m f2)) (first | (refine HF.out _ ?_; go_grown; done) | go_keep) (first
      | (go_at_call 22
         refine (with_in A B n c m d ks ws k r _ ?_ ?_ (by omega) (by omega) HFT.out hkm).mono ?_; (· exact (Hk.below st6.below).below (by go_grown)); (· exact (Hw.below st6.below).below (by go_grown)); rintro e w5 ⟨x1, x2, rfl, g1, g2, p5⟩; obtain ⟨G1, M1, h1, rfl⟩ := g1.shape; obtain ⟨G2, M2, h2, rfl⟩ := g2.shape
         have q5 : Below Y.heap.size Y w5 := Below.trans (by go_grown) p5
         have s1 := g1.sl
         have s2 := g2.sl
         have HS1 : Hid (M1 = n ∧ M2 = m) := ⟨s1.len.trans Hk.len.symm, s2.len.trans (by rw [List.length_set]; exact Hw.len.symm)⟩
         have st7 := st6.next q5
         clear g1 g2 p5)
      | (go_at_call 21
         refine (alike_walk s1 s2 st7.keys.sl st7.ways.sl (by rw [HS1.out.1]; omega) (by rw [HS1.out.2]; omega)).mono ?_
         rintro e w6 ⟨rfl, p6⟩
         have q6 := q5.trans (p6.mono q5.size))
      )
    all_goals go_wp2
    all_goals go_ret
    all_goals exact ⟨rfl, hbV.trans ((st6.below.trans (q6.mono st6.size)).mono hbV.size)⟩

end Go.Proofs.Ytpbbkfpapmomhaa
