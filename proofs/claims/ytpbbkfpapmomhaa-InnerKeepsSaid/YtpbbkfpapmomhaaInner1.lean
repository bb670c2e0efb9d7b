/-
  What inner's small questions (fits, has, hasTwo) and its copy (same) return.
-/
import Derived.Test.YtpbbkfpapmomhaaConcat
import Derived.Deep.RegionHeld3
namespace Go.Proofs.Ytpbbkfpapmomhaa
open Go.ChangeShapes Go.WideShapes Go.ChangeAt Go.RowKit
set_option linter.unusedVariables false

/-- An Inner as a value. -/
abbrev inn (A : Option Addr) (n c : Nat) (B : Option Addr) (m d : Nat) : Value := .agg #[.slice A n c, .slice B m d]

def fitsB (n m : Nat) : Bool := (n : Int) == (m : Int) - 1

set_option maxHeartbeats 400000 in
theorem fits_walk (A B : Option Addr) (n c m d : Nat) (w : World) (hn : n ≤ 100000) (hm : m ≤ 100000) :
    Calls Try.prog 38 #[inn A n c B m d] w fun e w' => e = .returned (.bool (fitsB n m)) ∧ Below w.heap.size w w' := by
  go_enter Try.func38, Try.ntmps38
  go_wp2
  go_ret
  exact ⟨rfl, (Below.refl _ w).alloc (Nat.le_refl _) _⟩

def hasB (m : Nat) (i : Int) : Bool := decide (0 ≤ i ∧ i < (m : Int))

set_option maxHeartbeats 400000 in
theorem has_walk (A B : Option Addr) (n c m d : Nat) (i : Int) (w : World) (hm : m ≤ 100000) :
    Calls Try.prog 39 #[inn A n c B m d, .int .i64 i] w fun e w' => e = .returned (.bool (hasB m i)) ∧ Below w.heap.size w w' := by
  by_cases h0 : 0 ≤ i
  · go_enter Try.func39, Try.ntmps39
    go_wp2
    go_ret
    refine ⟨ret_bool ?_, (Below.refl _ w).alloc (Nat.le_refl _) _⟩
    simp [hasB, h0]
  · have h1 : decide (0 ≤ i) = false := by simp; omega
    go_enter Try.func39, Try.ntmps39
    go_wp2
    go_ret
    refine ⟨ret_bool ?_, (Below.refl _ w).alloc (Nat.le_refl _) _⟩
    simp [hasB]; omega

def hasTwoB (m : Nat) (i : Int) : Bool := decide (0 ≤ i ∧ i < (m : Int) - 1)

set_option maxHeartbeats 400000 in
theorem hasTwo_walk (A B : Option Addr) (n c m d : Nat) (i : Int) (w : World) (hm : m ≤ 100000) :
    Calls Try.prog 44 #[inn A n c B m d, .int .i64 i] w fun e w' => e = .returned (.bool (hasTwoB m i)) ∧ Below w.heap.size w w' := by
  have hb0 : Below w.heap.size w (w.alloc (.cells #[.slice A n c, .slice B m d] 26)) := (Below.refl _ w).alloc (Nat.le_refl _) _
  cases hh : hasB m i with
  | true =>
    have HH : Hid (hasB m i = true) := hh
    have h0 : 0 ≤ i ∧ i < (m : Int) := by simpa [hasB] using hh
    have h1 := h0.1
    have h2 := h0.2
    clear hh h0
    go_enter Try.func44, Try.ntmps44
    go_wp2_with fail
    refine (has_walk A B n c m d i _ hm).mono ?_
    rintro e w1 ⟨rfl, hb1⟩
    have k1 := hb1.cell (p := ⟨w.heap.size, 1, none⟩) (by simp)
    simp at k1
    rw [HH.out]
    go_wp2
    go_ret
    refine ⟨ret_bool ?_, hb0.trans (hb1.mono (by simp))⟩
    simp [hasTwoB, h1]
  | false =>
    have HH : Hid (hasB m i = false) := hh
    have HT : Hid (hasTwoB m i = false) := by
      show _ = _
      simp [hasB, hasTwoB] at hh ⊢
      intro h
      have := hh h
      omega
    clear hh
    go_enter Try.func44, Try.ntmps44
    go_wp2_with fail
    refine (has_walk A B n c m d i _ hm).mono ?_
    rintro e w1 ⟨rfl, hb1⟩
    rw [HH.out]
    go_wp2
    go_ret
    exact ⟨ret_bool HT.out.symm, hb0.trans (hb1.mono (by simp))⟩

/-- What a call that makes an Inner gives: its keys' row and its ways' row, and nothing that was there has changed. -/
def MadeI (w : World) (ks ws : List Int) (e : Ending) (w' : World) : Prop :=
  ∃ u v, e = .returned (.agg #[u, v]) ∧ Row 2 w.heap.size w' u ks ∧ Row 35 w.heap.size w' v ws ∧ Below w.heap.size w w'

/-- A result that lies in a variable of two cells. -/
theorem load_inn {w : World} {R : Nat} {x y : Value} (e0 : w.cell? ⟨R, 0, none⟩ = some x) (e1 : w.cell? ⟨R, 1, none⟩ = some y) :
    (loadVar 26 ⟨R, 0, none⟩).run Try.prog w = .ok (.agg #[x, y]) w := by
  simp [go_sem, e0, e1]
theorem results_inn {fn : Func} {t : Tmp} {R : Nat} {x y : Value} {tmps : Array Value} {w : World} (h : fn.results = #[.cell t 26]) (ht : tmps.getD t undef = .pointer (some ⟨R, 0, none⟩))
    (e0 : w.cell? ⟨R, 0, none⟩ = some x) (e1 : w.cell? ⟨R, 1, none⟩ = some y) : (results fn tmps).run Try.prog w = .ok (.agg #[x, y]) w := by
  have := load_inn e0 e1
  have ht' : tmps[t]?.getD undef = .pointer (some ⟨R, 0, none⟩) := by simpa using ht
  simp [results, h, ht', asAddr, this]

/-- .. behind a store into it. -/
theorem results_stored {fn : Func} {t : Tmp} {R : Nat} {x y a b : Value} {tmps : Array Value} {w : World} (h : fn.results = #[.cell t 26]) (ht : tmps.getD t undef = .pointer (some ⟨R, 0, none⟩))
    (e0 : w.cell? ⟨R, 0, none⟩ = some a) (e1 : w.cell? ⟨R, 1, none⟩ = some b) : (results fn tmps).run Try.prog ((w.setCell ⟨R, 0, none⟩ x).setCell ⟨R, 1, none⟩ y) = .ok (.agg #[x, y]) ((w.setCell ⟨R, 0, none⟩ x).setCell ⟨R, 1, none⟩ y) :=
  results_inn h ht ((World.cell?_setCell_other _ _ _ _ (by simp)).trans (World.cell?_setCell_same _ _ _ e0)) (World.cell?_setCell_same _ _ _ ((World.cell?_setCell_other _ _ _ _ (by simp)).trans e1))

/-- The world behind a box for the receiver and one for the result. -/
theorem boxed1 (w : World) (x y : Value) : ∃ W : World, (w.alloc (.cells #[x, y] 26)).alloc (.cells #[.slice none 0 0, .slice none 0 0] 26) = W ∧ Below w.heap.size w W ∧ w.heap.size + 1 < W.heap.size ∧
    W.cell? ⟨w.heap.size, 0, none⟩ = some x ∧ W.cell? ⟨w.heap.size, 1, none⟩ = some y ∧
    W.cell? ⟨w.heap.size + 1, 0, none⟩ = some (.slice none 0 0) ∧ W.cell? ⟨w.heap.size + 1, 1, none⟩ = some (.slice none 0 0) ∧ W.frozen? ⟨w.heap.size + 1, 0, none⟩ = false ∧ W.frozen? ⟨w.heap.size + 1, 1, none⟩ = false :=
  ⟨_, rfl, ((Below.refl _ w).alloc (Nat.le_refl _) _).alloc (by simp) _, by simp, by simp, by simp, by simp, by simp, by simp, by simp⟩

/-- Two rows, stored where the result stands. -/
theorem madeI_end {w W1 W2 W3 : World} {u v : Value} {ks ws : List Int} {R : Nat} (h1 : Row 2 W1.heap.size W2 u ks) (hb1 : Below w.heap.size w W1) (hR : R < W1.heap.size) (hR0 : w.heap.size ≤ R)
    (h2 : Row 35 W1.heap.size W3 v ws) (hb2 : Below W2.heap.size W2 W3) (hb3 : Below W1.heap.size W1 W2) :
    MadeI w ks ws (.returned (.agg #[u, v])) ((W3.setCell ⟨R, 0, none⟩ u).setCell ⟨R, 1, none⟩ v) :=
  ⟨u, v, rfl, (((h1.next hb2).set_below hR _).set_below hR _).lower hb1.size, ((h2.set_below hR _).set_below hR _).lower hb1.size,
    ((hb1.trans ((hb3.trans (hb2.mono hb3.size)).mono hb1.size)).setCell (p := ⟨R, 0, none⟩) hR0 u).setCell (p := ⟨R, 1, none⟩) hR0 v⟩

set_option maxHeartbeats 1000000 in
theorem same_walk (A B : Option Addr) (n c m d : Nat) (ks ws : List Int) (w : World) (hk : Sl w A n c ks) (hw : Sl w B m d ws) (hn : n ≤ 1000) (hm : m ≤ 1000) :
    Calls Try.prog 37 #[inn A n c B m d] w (MadeI w ks ws) := by
  have hnl := hk.len
  have hml := hw.len
  have hn2 : ks.length ≤ 1000 := by omega
  have hm2 : ws.length ≤ 1000 := by omega
  clear hnl hml
  go_enter Try.func37, Try.ntmps37
  go_wp2
  obtain ⟨W, hW, hb0, hs0, c0, c1, r0, r1, z0, z1⟩ := boxed1 w (.slice A n c) (.slice B m d)
  rw [hW]
  have Hk := hk.below hb0
  have Hw := hw.below hb0
  clear hW hk hw
  go_region_held3 (fun w' => w'.cell? ⟨w.heap.size, 0, none⟩ = some (.slice A n c) ∧ w'.cell? ⟨w.heap.size, 1, none⟩ = some (.slice B m d)) (go_keep) (first
    | (go_at_call 40; refine (concatK1 _ A n c ks _ ?_ ?_ hn2).mono ?_; (· simp); (· exact Hk.below (by go_grown)); rintro e w1 ⟨v1, rfl, hr1, hb1⟩; obtain ⟨F1, N1, f1, rfl⟩ := hr1.shape
       have p1 : Below W.heap.size W w1 := Below.trans (by go_grown) (hb1.mono (by simp <;> omega))
       have k0 := (p1.cell (p := ⟨w.heap.size, 0, none⟩) (by simp; omega)).trans c0
       have k1 := (p1.cell (p := ⟨w.heap.size, 1, none⟩) (by simp; omega)).trans c1
       have y0 := hb1.cell (p := ⟨W.heap.size, 0, none⟩) (by simp <;> omega)
       have y1 : ∀ h, _ := fun h => hb1.cell (p := ⟨W.heap.size + 1, 0, none⟩) h
       have g1 := hr1.lower (base' := W.heap.size) (by simp <;> omega)
       simp at y0 y1
       clear hb1 hr1)
    | (go_at_call 41; refine (concatR1 _ B m d ws _ ?_ ?_ hm2).mono ?_; (· simp [*]); (· exact (Hw.below p1).below (by go_grown)); rintro e w2 ⟨v2, rfl, hr2, hb2⟩; obtain ⟨F2, N2, f2, rfl⟩ := hr2.shape
       have p12 : Below w1.heap.size w1 w2 := Below.trans (by go_grown) (hb2.mono (by simp <;> omega))
       have p2 := p1.trans (p12.mono p1.size)
       have k0 := (p2.cell (p := ⟨w.heap.size, 0, none⟩) (by simp; omega)).trans c0
       have k1 := (p2.cell (p := ⟨w.heap.size, 1, none⟩) (by simp; omega)).trans c1
       have t0 := (p2.cell (p := ⟨w.heap.size + 1, 0, none⟩) (by simp; omega)).trans r0
       have t1 := (p2.cell (p := ⟨w.heap.size + 1, 1, none⟩) (by simp; omega)).trans r1
       have u0 := (p2.frozen (p := ⟨w.heap.size + 1, 0, none⟩) (by simp; omega)).trans z0
       have u1 := (p2.frozen (p := ⟨w.heap.size + 1, 1, none⟩) (by simp; omega)).trans z1
       have g2 := hr2.lower (base' := W.heap.size) (by have := p1.size; simp <;> omega)
       clear hb2 hr2))
  all_goals go_wp2
  all_goals ((try simp only [Exit.inBlock, Exit.then]); refine bodyPost_ret (results_stored rfl rfl t0 t1) rfl ?_)
  all_goals exact madeI_end g1 hb0 hs0 (by omega) g2 p12 p1
end Go.Proofs.Ytpbbkfpapmomhaa
