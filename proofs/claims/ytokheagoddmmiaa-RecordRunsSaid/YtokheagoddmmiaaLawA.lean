/-
  The laws' Awake; the law RecordNil.
-/
import Derived.Test.YtokheagoddmmiaaMake5
namespace Go.Proofs.Ytokheagoddmmiaa
open Go.ChangeShapes Go.WideShapes Go.ChangeAt Go.RowKit
set_option linter.unusedVariables false
set_option linter.unusedSimpArgs false
set_option maxRecDepth 20000

theorem MadeT.out {F : Nat → Prop} {w w' : World} {a mo : Nat} {l : List It} {r : Rc} (h : MadeT F w a mo l r w') : ∃ F' P' u v, Tb F' w' a mo (l ++ [⟨r, 1, false, u, v⟩]) P' ∧ Only F w w' ∧ ∀ b, F' b → F b ∨ w.heap.size ≤ b := h
/-- All that a table holds lies at or above B. -/
theorem MadeT.below {F : Nat → Prop} {w w' : World} {a mo B : Nat} {l : List It} {r : Rc} (h : MadeT F w a mo l r w') (hF : ∀ b, F b → B ≤ b) (hB : B ≤ w.heap.size) : ∃ F' P' u v, Tb F' w' a mo (l ++ [⟨r, 1, false, u, v⟩]) P' ∧ Below B w w' ∧ ∀ b, F' b → B ≤ b := by
  obtain ⟨F', P', u, v, h1, h2, h3⟩ := h
  exact ⟨F', P', u, v, h1, h2.below hF hB, fun b e => (h3 b e).elim (hF b) (Nat.le_trans hB)⟩

set_option maxHeartbeats 2000000 in
theorem awake_walk (w : World) : Calls Try.prog 9 #[] w fun e w' => e = .returned (.bool true) ∧ Below w.heap.size w w' := by
  go_enter Try.func9, Try.ntmps9
  go_wp2_with fail
  refine (new_walk 1 w).mono ?_
  rintro e w1 ⟨rfl, h1, b1⟩
  obtain ⟨a, ha⟩ : ∃ a, w.heap.size = a := ⟨_, rfl⟩
  have HA := Lib.hid ha
  rw [ha] at h1 ⊢
  clear ha
  go_wp2_with fail
  refine (make_yes h1 none none 0 0 0 ⟨[], [], 0, 0, 0, 0⟩ (Sl.nil _) (Sl.nil _) (by decide) (by decide) (by decide) (by decide)).mono ?_
  rintro e w2 ⟨rfl, h2⟩
  obtain ⟨F2, P2, u2, v2, t2, b2, f2⟩ := h2.below (B := a) (fun b e => by have : b = a := e; omega) (by have := b1.size; have := HA.out; omega)
  go_wp2_with fail
  refine (make_no t2 none none 0 0 0 0 ⟨[], [], 0, 0, 0, 0⟩ (by right; right; show mostOf 1 ≤ 1; decide)).mono ?_
  rintro e w3 ⟨rfl, b3⟩
  have t3 := t2.below b3
  go_wp2_with fail
  refine (state_yes t3 (i := 0) rfl (by decide) (by show (1 : Nat) ≤ 100000; omega)).mono ?_
  rintro e w4 ⟨rfl, rfl⟩
  go_wp2_with fail
  refine (state_no t3 (by left; decide)).mono ?_
  rintro e w4 ⟨rfl, rfl⟩
  go_wp2
  go_ret
  refine ⟨rfl, ?_⟩
  have := HA.out
  subst this
  exact b1.trans (b2.trans (b3.mono (Nat.le_trans b1.size b2.size)))

set_option maxHeartbeats 2000000 in
theorem recordNil_walk (A B : Option Addr) (n c m d : Nat) (r : Rc) (k : Int) (w : World) :
    Calls Try.prog 8 #[rcv (.slice A n c) (.slice B m d) r, .int .i64 k] w fun e w' => e = .returned (.bool true) ∧ Below w.heap.size w w' := by
  obtain ⟨ns, is, kp, wy, od, nw⟩ := r
  obtain ⟨W, hW, hb, h6⟩ : ∃ W : World, w.alloc (.cells #[.slice A n c, .slice B m d, .int .i64 kp, .int .i64 wy, .int .i64 od, .int .i64 nw] 32) = W ∧ Below w.heap.size w W ∧ Six W w.heap.size (.slice A n c) (.slice B m d) kp wy od nw := ⟨_, rfl, below_new _ _, Six.new w rfl _ _ _ _ _ _⟩
  have H6 := Lib.hid h6
  clear h6
  generalize hR : w.heap.size = R at *
  have HR := Lib.hid hR
  clear hR
  have HB := Lib.hid hb
  clear hb
  go_enter Try.func8, Try.ntmps8
  go_wp2_with fail
  (try rw [hW]); (try rw [HR.out])
  refine (awake_walk W).mono ?_
  rintro e w1 ⟨rfl, b1⟩
  have g1 := H6.out.below b1
  obtain ⟨c0, c1, c2, c3, c4, c5⟩ := g1.cells
  have p1 : Below R w w1 := HB.out.trans (b1.mono (by have := HB.out.size; have := HR.out; omega))
  go_wp2_with fail
  refine (short_walk A B n c m d ⟨ns, is, kp, wy, od, nw⟩ w1).mono ?_
  rintro e w2 ⟨rfl, b2⟩
  have g2 := g1.below b2
  have p2 : Below R w w2 := p1.trans (b2.mono (by have := p1.size; have := HR.out; omega))
  clear c0 c1 c2 c3 c4 c5
  obtain ⟨c0, c1, c2, c3, c4, c5⟩ := g2.cells
  by_cases hs : n ≤ 20 ∧ m ≤ 20
  · have hd : decide (n ≤ 20 ∧ m ≤ 20) = true := by simpa using hs
    rw [hd]
    clear hd hW
    go_wp2_with fail
    refine (make_nil A B n c m d ⟨ns, is, kp, wy, od, nw⟩ w2).mono ?_
    rintro e w3 ⟨rfl, b3⟩
    have p3 : Below R w w3 := p2.trans (b3.mono (by have := p2.size; have := HR.out; omega))
    clear c0 c1 c2 c3 c4 c5
    go_wp2_with fail
    refine (set_nil k 2 w3).mono ?_
    rintro e w4 ⟨rfl, rfl⟩
    go_wp2_with fail
    refine (setAll_nil k w3).mono ?_
    rintro e w4 ⟨rfl, rfl⟩
    go_wp2_with fail
    refine (state_nil k w3).mono ?_
    rintro e w4 ⟨rfl, rfl⟩
    go_wp2_with fail
    refine (all_nil k w3).mono ?_
    rintro e w4 ⟨rfl, rfl⟩
    go_wp2_with fail
    refine (look_nil k w3).mono ?_
    rintro e w4 ⟨u, v, rfl, hu, hv, b4⟩
    have p4 : Below R w w4 := p3.trans (b4.mono (by have := p3.size; have := HR.out; omega))
    obtain ⟨A1, n1, d1, rfl⟩ := hu.shape
    obtain ⟨A2, n2, d2, rfl⟩ := hv.shape
    have s1 := hu.sl
    have s2 := hv.sl
    obtain rfl : n1 = 0 := s1.len
    obtain rfl : n2 = 0 := s2.len
    go_wp2_with fail
    refine (lawSame_walk A1 A2 none none 0 d1 0 d2 0 0 Rc.nil w4 s1 s2 (Sl.nil _) (Sl.nil _) (by omega) (by omega)).mono ?_
    rintro e w5 ⟨rfl, b5⟩
    have p5 : Below R w w5 := p4.trans (b5.mono (by have := p4.size; have := HR.out; omega))
    go_wp2_with fail
    refine (len_nil w5).mono ?_
    rintro e w6 ⟨rfl, rfl⟩
    go_wp2
    go_ret
    exact ⟨rfl, p5⟩
  · have hd : decide (n ≤ 20 ∧ m ≤ 20) = false := by simpa using hs
    rw [hd]
    clear hd hs hW
    go_wp2
    go_ret
    exact ⟨rfl, p2⟩
end Go.Proofs.Ytokheagoddmmiaa
