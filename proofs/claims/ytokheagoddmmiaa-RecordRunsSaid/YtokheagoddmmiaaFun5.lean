/-
  What record's Look and the laws' short, May and Same return.
-/
import Derived.Test.YtokheagoddmmiaaSix5
namespace Go.Proofs.Ytokheagoddmmiaa
open Go.ChangeShapes Go.WideShapes Go.ChangeAt Go.RowKit
set_option linter.unusedVariables false
set_option linter.unusedSimpArgs false
set_option maxRecDepth 20000

section
variable {F G : Nat → Prop} {w w' : World} {a m i : Nat} {l : List It} {P : Value} {x : It} {n : Int}

theorem made_nil {w Z : World} {R : Nat} (hv : Six Z R (.slice none 0 0) (.slice none 0 0) 0 0 0 0) (hb : Below w.heap.size w Z) (hR : w.heap.size ≤ R) :
    Six (put6 Z R (.slice none 0 0) (.slice none 0 0) 0 0 0 0) R (.slice none 0 0) (.slice none 0 0) 0 0 0 0 ∧ MadeR w Rc.nil (.returned (rcv (.slice none 0 0) (.slice none 0 0) Rc.nil)) (put6 Z R (.slice none 0 0) (.slice none 0 0) 0 0 0 0) :=
  ⟨hv.put, _, _, rfl, Row.nil _ _ _, Row.nil _ _ _, below_put6 hb hR⟩

set_option maxHeartbeats 1000000 in
theorem look_nil (n : Int) (w : World) : Calls Try.prog 16 #[nilp, .int .i64 n] w (MadeR w Rc.nil) := by
  obtain ⟨W, hW, hb, hv⟩ : ∃ W : World, w.alloc (.cells #[.slice none 0 0, .slice none 0 0, .int .i64 0, .int .i64 0, .int .i64 0, .int .i64 0] 32) = W ∧ Below w.heap.size w W ∧ Six W w.heap.size (.slice none 0 0) (.slice none 0 0) 0 0 0 0 := ⟨_, rfl, below_new _ _, Six.new w rfl _ _ _ _ _ _⟩
  obtain ⟨x0, x1, x2, x3, x4, x5⟩ := hv.cells
  obtain ⟨z0, z1, z2, z3, z4, z5⟩ := hv.frees
  have HE := Lib.hid (made_nil hv hb (Nat.le_refl _))
  clear hv hb
  generalize hR : w.heap.size = R at *
  go_enter Try.func16, Try.ntmps16
  go_wp2_with fail
  (try rw [hW])
  refine (at_nil n W).mono ?_
  rintro e w1 ⟨rfl, rfl⟩
  go_wp2
  obtain ⟨h1, h2⟩ := HE.out
  ((try simp only [Exit.inBlock, Exit.then]); refine bodyPost_ret (results_six rfl rfl h1) rfl ?_)
  exact h2
set_option maxHeartbeats 1000000 in
theorem look_no (h : Tb F w a m l P) (hn : n < 1 ∨ (l.length : Int) < n) : Calls Try.prog 16 #[ptr a, .int .i64 n] w (MadeR w Rc.nil) := by
  obtain ⟨W, hW, hb, hv⟩ : ∃ W : World, w.alloc (.cells #[.slice none 0 0, .slice none 0 0, .int .i64 0, .int .i64 0, .int .i64 0, .int .i64 0] 32) = W ∧ Below w.heap.size w W ∧ Six W w.heap.size (.slice none 0 0) (.slice none 0 0) 0 0 0 0 := ⟨_, rfl, below_new _ _, Six.new w rfl _ _ _ _ _ _⟩
  obtain ⟨x0, x1, x2, x3, x4, x5⟩ := hv.cells
  obtain ⟨z0, z1, z2, z3, z4, z5⟩ := hv.frees
  have HE := Lib.hid (made_nil hv hb (Nat.le_refl _))
  have hat := at_no (h.below hb) hn
  clear hv hb h hn
  generalize hR : w.heap.size = R at *
  go_enter Try.func16, Try.ntmps16
  go_wp2_with fail
  (try rw [hW])
  refine hat.mono ?_
  rintro e w1 ⟨rfl, rfl⟩
  go_wp2
  obtain ⟨h1, h2⟩ := HE.out
  ((try simp only [Exit.inBlock, Exit.then]); refine bodyPost_ret (results_six rfl rfl h1) rfl ?_)
  exact h2

set_option maxHeartbeats 1000000 in
theorem look_yes (h : Tb F w a m l P) (hi : l[i]? = some x) (hn : n = (i : Int) + 1) (hl : l.length ≤ 100000) : Calls Try.prog 16 #[ptr a, .int .i64 n] w (MadeR w x.rc) := by
  obtain ⟨W, hW, hb, hv⟩ : ∃ W : World, w.alloc (.cells #[.slice none 0 0, .slice none 0 0, .int .i64 0, .int .i64 0, .int .i64 0, .int .i64 0] 32) = W ∧ Below w.heap.size w W ∧ Six W w.heap.size (.slice none 0 0) (.slice none 0 0) 0 0 0 0 := ⟨_, rfl, below_new _ _, Six.new w rfl _ _ _ _ _ _⟩
  have hT := h.below hb
  have hm := hT.its.mem x (List.mem_of_getElem? hi)
  obtain ⟨g, c, rfl, -, -, -, -, -, c0, c1, c2, c3, c4, c5, -, -, -⟩ := hT.its.cells hi
  obtain ⟨g', c', e, hat⟩ := at_yes hT (List.getElem?_eq_some_iff.1 hi).1 hn hl
  injection e with e1 e2 e3
  injection e1 with e1
  injection e1 with e1
  subst e1
  obtain ⟨⟨ns, is, kp, wy, od, nw⟩, st, all, nv, iv⟩ := x
  obtain ⟨hm1, hm2, -, hf1, hf2⟩ := hm
  simp only at hm1 hm2 hf1 hf2 c0 c1 c2 c3 c4 c5 ⊢
  obtain ⟨A1, n1, d1, rfl⟩ := hm1.shape
  obtain ⟨A2, n2, d2, rfl⟩ := hm2.shape
  have hsz : w.heap.size < W.heap.size := by rw [← hW]; simp
  have hsm := Lib.hid (same_walk A1 A2 n1 d1 n2 d2 ⟨ns, is, kp, wy, od, nw⟩ W hm1.sl hm2.sl (by simp only; omega) (by simp only; omega))
  clear h hn hl hT hi hm1 hm2 e2 e3 hf1 hf2
  generalize hR : w.heap.size = R at *
  have HR := Lib.hid hR
  have HB := Lib.hid hb
  have HV := Lib.hid hv
  clear hb hv hR
  go_enter Try.func16, Try.ntmps16
  go_wp2_with fail
  (try rw [hW]); (try rw [HR.out])
  refine hat.mono ?_
  rintro e w1 ⟨rfl, rfl⟩
  go_wp2_with fail
  refine hsm.out.mono ?_
  rintro e X ⟨u, v, rfl, hr, hk, hbX⟩
  obtain ⟨A3, n3, d3, rfl⟩ := hr.shape
  obtain ⟨A4, n4, d4, rfl⟩ := hk.shape
  have hvX := HV.out.below hbX
  obtain ⟨x0, x1, x2, x3, x4, x5⟩ := hvX.cells
  obtain ⟨z0, z1, z2, z3, z4, z5⟩ := hvX.frees
  have HE := Lib.hid (six_end (w := w) hr hk hsz (by have := HR.out; omega) (by have := HR.out; subst this; exact HB.out.trans (hbX.mono (by omega))) (by have := HR.out; omega) hvX)
  clear hr hk hbX hvX c0 c1 c2 c3 c4 c5
  go_wp2
  obtain ⟨h1, h2⟩ := HE.out
  ((try simp only [Exit.inBlock, Exit.then]); refine bodyPost_ret (results_six rfl rfl h1) rfl ?_)
  exact h2
end

theorem short_walk (A B : Option Addr) (n c m d : Nat) (r : Rc) (w : World) :
    Calls Try.prog 11 #[rcv (.slice A n c) (.slice B m d) r] w fun e w' => e = .returned (.bool (decide (n ≤ 20 ∧ m ≤ 20))) ∧ Below w.heap.size w w' := by
  obtain ⟨ns, is, kp, wy, od, nw⟩ := r
  by_cases h1 : (n : Int) ≤ 20
  · by_cases h2 : (m : Int) ≤ 20
    · go_enter Try.func11, Try.ntmps11
      go_wp2
      go_ret
      exact ⟨ret_bool (by simp; omega), below_new _ _⟩
    · go_enter Try.func11, Try.ntmps11
      go_wp2
      go_ret
      exact ⟨ret_bool (by simp; omega), below_new _ _⟩
  · go_enter Try.func11, Try.ntmps11
    go_wp2
    go_ret
    exact ⟨ret_bool (by simp; omega), below_new _ _⟩

theorem may_walk (A B : Option Addr) (n c m d : Nat) (r : Rc) (w : World) :
    Calls Try.prog 13 #[rcv (.slice A n c) (.slice B m d) r] w fun e w' => e = .returned (.bool (decide (n = m ∧ 0 ≤ r.kp))) ∧ Below w.heap.size w w' := by
  obtain ⟨ns, is, kp, wy, od, nw⟩ := r
  by_cases h1 : n = m
  · subst h1
    by_cases h2 : (0 : Int) ≤ kp
    · go_enter Try.func13, Try.ntmps13
      go_wp2
      go_ret
      exact ⟨ret_bool (by simp; omega), below_new _ _⟩
    · go_enter Try.func13, Try.ntmps13
      go_wp2
      go_ret
      exact ⟨ret_bool (by simp; omega), below_new _ _⟩
  · have h2 : ((n : Int) == (m : Int)) = false := by simp; omega
    have h3 : ¬ ((n : Int) = (m : Int)) := by omega
    go_enter Try.func13, Try.ntmps13
    go_wp2
    go_ret
    exact ⟨ret_bool (by simp; omega), below_new _ _⟩

set_option maxHeartbeats 2000000 in
theorem lawSame_walk (A B A' B' : Option Addr) (n c m d c' d' : Nat) (r : Rc) (w : World) (h1 : Sl w A n c r.ns) (h2 : Sl w B m d r.is) (h3 : Sl w A' n c' r.ns) (h4 : Sl w B' m d' r.is) (hn : n ≤ 1000) (hm : m ≤ 1000) :
    Calls Try.prog 15 #[rcv (.slice A n c) (.slice B m d) r, rcv (.slice A' n c') (.slice B' m d') r] w fun e w' => e = .returned (.bool true) ∧ Below w.heap.size w w' := by
  obtain ⟨ks, ws, kp, wy, od, nw⟩ := r
  simp only at h1 h2 h3 h4
  obtain ⟨W, b, hW, hb, hb0, HN, HO⟩ : ∃ (W : World) (b : Nat), (w.alloc (.cells #[.slice A n c, .slice B m d, .int .i64 kp, .int .i64 wy, .int .i64 od, .int .i64 nw] 32)).alloc (.cells #[.slice A' n c', .slice B' m d', .int .i64 kp, .int .i64 wy, .int .i64 od, .int .i64 nw] 32) = W ∧ w.heap.size + 1 = b ∧ Below w.heap.size w W ∧ Six W w.heap.size (.slice A n c) (.slice B m d) kp wy od nw ∧ Six W b (.slice A' n c') (.slice B' m d') kp wy od nw :=
    ⟨_, _, rfl, rfl, ((Below.refl _ w).alloc (Nat.le_refl _) _).alloc (by simp) _, (Six.new w rfl _ _ _ _ _ _).below (below_new _ _), Six.new _ (by simp) _ _ _ _ _ _⟩
  obtain ⟨c0, c1, c2, c3, c4, c5⟩ := HN.cells
  obtain ⟨e0, e1, e2, e3, e4, e5⟩ := HO.cells
  have i1 := Lib.hid (h1.below hb0)
  have i2 := Lib.hid (h2.below hb0)
  have i3 := Lib.hid (h3.below hb0)
  have i4 := Lib.hid (h4.below hb0)
  have HB := Lib.hid hb0
  clear h1 h2 h3 h4 HN HO hb0
  generalize hx : w.heap.size = x at *
  go_enter Try.func15, Try.ntmps15
  go_wp2
  (try rw [hW]); (try rw [hb])
  clear hW hb
  go_loopw [54] (fun i wr => ∃ k q : Nat, k ≤ n ∧ i = .int .i64 k ∧ wr = W.drewN q) (fun i _ => n - (intOf i).toNat)
  case atStart => exact ⟨0, 0, Nat.zero_le _, rfl, rfl⟩
  case round =>
    obtain ⟨k, q, hk, rfl, rfl⟩ := hrel
    by_cases hlt : k < n
    · have hll : k < ks.length := by rw [← i1.out.len]; exact hlt
      obtain ⟨g, off, rfl, hbl, d1⟩ := i1.out.at_ hll
      obtain ⟨g', off', rfl, hbl', d2⟩ := i3.out.at_ hll
      have hk0 : (0 : Int) ≤ (k : Int) := by omega
      have hk1 : (k : Int) < (n : Int) := by omega
      clear i1 i2 i3 i4
      generalize ks[k] = z at *
      go_wp2
      go_quiet (fail)
      go_wp2
      go_roundw
      case rel => exact ⟨k + 1, _, by omega, by go_num, rfl⟩
      case measure => simp [intOf]; omega
    · go_wp2
      go_loopw [72] (fun i wr => ∃ k q : Nat, k ≤ m ∧ i = .int .i64 k ∧ wr = W.drewN q) (fun i _ => m - (intOf i).toNat)
      case atStart => exact ⟨0, q, Nat.zero_le _, rfl, rfl⟩
      case round =>
        clear hk hlt
        obtain ⟨k, q, hk, rfl, rfl⟩ := hrel
        by_cases hlt : k < m
        · have hll : k < ws.length := by rw [← i2.out.len]; exact hlt
          obtain ⟨g, off, rfl, hbl, d1⟩ := i2.out.at_ hll
          obtain ⟨g', off', rfl, hbl', d2⟩ := i4.out.at_ hll
          have hk0 : (0 : Int) ≤ (k : Int) := by omega
          have hk1 : (k : Int) < (m : Int) := by omega
          clear i1 i2 i3 i4
          generalize ws[k] = z at *
          go_wp2
          go_quiet (fail)
          go_wp2
          go_roundw
          case rel => exact ⟨k + 1, _, by omega, by go_num, rfl⟩
          case measure => simp [intOf]; omega
        · go_wp2
          go_ret
          exact ⟨rfl, below_drewN HB.out _⟩
end Go.Proofs.Ytokheagoddmmiaa
