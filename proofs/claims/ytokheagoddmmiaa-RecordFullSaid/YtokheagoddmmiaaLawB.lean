/-
  The laws RecordMakes and RecordOthers.
-/
import Derived.Test.YtokheagoddmmiaaLawA
namespace Go.Proofs.Ytokheagoddmmiaa
open Go.ChangeShapes Go.WideShapes Go.ChangeAt Go.RowKit
set_option linter.unusedVariables false
set_option linter.unusedSimpArgs false
set_option maxRecDepth 20000

theorem Six.reads {W w' : World} {b : Nat} {u v : Value} {k y o n : Int} (h : Six W b u v k y o n) (hb : Below W.heap.size W w') : w'.cell? ⟨b, 0, none⟩ = some u ∧ w'.cell? ⟨b, 1, none⟩ = some v ∧ w'.cell? ⟨b, 2, none⟩ = some (.int .i64 k) ∧ w'.cell? ⟨b, 3, none⟩ = some (.int .i64 y) ∧ w'.cell? ⟨b, 4, none⟩ = some (.int .i64 o) ∧ w'.cell? ⟨b, 5, none⟩ = some (.int .i64 n) := (h.below hb).cells

set_option maxHeartbeats 4000000 in
theorem recordMakes_walk (A B : Option Addr) (n c m d : Nat) (r : Rc) (w : World) (hn : Sl w A n c r.ns) (hm : Sl w B m d r.is) :
    Calls Try.prog 4 #[rcv (.slice A n c) (.slice B m d) r] w fun e w' => e = .returned (.bool true) ∧ Below w.heap.size w w' := by
  obtain ⟨ns, is, kp, wy, od, nw⟩ := r
  obtain ⟨W, hW, hb, h6⟩ : ∃ W : World, w.alloc (.cells #[.slice A n c, .slice B m d, .int .i64 kp, .int .i64 wy, .int .i64 od, .int .i64 nw] 32) = W ∧ Below w.heap.size w W ∧ Six W w.heap.size (.slice A n c) (.slice B m d) kp wy od nw := ⟨_, rfl, below_new _ _, Six.new w rfl _ _ _ _ _ _⟩
  have H6 := Lib.hid h6
  have HN := Lib.hid (hn.below hb)
  have HM := Lib.hid (hm.below hb)
  clear h6 hn hm
  generalize hR : w.heap.size = R at *
  have HR := Lib.hid hR
  clear hR
  have HB := Lib.hid hb
  clear hb
  go_enter Try.func4, Try.ntmps4
  go_wp2_with fail
  (try rw [hW]); (try rw [HR.out])
  have HRW : Hid (R ≤ W.heap.size) := by show _ ≤ _; have := HB.out.size; have := HR.out; omega
  clear hW
  refine (awake_walk W).mono ?_
  rintro e w1 ⟨rfl, b1⟩
  obtain ⟨c0, c1, c2, c3, c4, c5⟩ := H6.out.reads b1
  go_wp2_with fail
  refine (short_walk A B n c m d ⟨ns, is, kp, wy, od, nw⟩ w1).mono ?_
  rintro e w2 ⟨rfl, b2⟩
  have p2 : Below W.heap.size W w2 := b1.trans (b2.mono b1.size)
  clear c0 c1 c2 c3 c4 c5
  by_cases hs : n ≤ 20 ∧ m ≤ 20
  case neg =>
    have hd : decide (n ≤ 20 ∧ m ≤ 20) = false := by simpa using hs
    rw [hd]
    clear hd hs
    go_wp2
    go_ret
    exact ⟨rfl, HB.out.trans (p2.mono HRW.out)⟩
  have hd : decide (n ≤ 20 ∧ m ≤ 20) = true := by simpa using hs
  rw [hd]
  obtain ⟨hs1, hs2⟩ := hs
  clear hd
  go_wp2_with fail
  refine (new_walk 3 w2).mono ?_
  rintro e w3 ⟨rfl, t3, b3⟩
  obtain ⟨a, ha⟩ : ∃ a, w2.heap.size = a := ⟨_, rfl⟩
  rw [ha] at t3 ⊢
  have hWa : W.heap.size ≤ a := by have := p2.size; omega
  have HA3 : Hid (a ≤ w3.heap.size) := by show _ ≤ _; have := b3.size; omega
  have p3 : Below W.heap.size W w3 := p2.trans (b3.mono p2.size)
  clear ha b1 b2 b3 p2
  obtain ⟨c0, c1, c2, c3, c4, c5⟩ := H6.out.reads p3
  go_wp2_with fail
  by_cases hmay : n = m ∧ 0 ≤ kp
  · obtain ⟨rfl, hkp⟩ := hmay
    refine (make_yes t3 A B n c d ⟨ns, is, kp, wy, od, nw⟩ (HN.out.below p3) (HM.out.below p3) hkp (by decide) (by decide) hs1).mono ?_
    rintro e w4 ⟨rfl, h4⟩
    obtain ⟨F4, P4, u4, v4, t4, b4, f4⟩ := h4.below (B := a) (fun b e => by have : b = a := e; omega) HA3.out
    have p4 : Below W.heap.size W w4 := p3.trans (b4.mono hWa)
    have HT := Lib.hid t4
    clear c0 c1 c2 c3 c4 c5 h4 t4 b4 f4 t3
    obtain ⟨c0, c1, c2, c3, c4, c5⟩ := H6.out.reads p4
    go_wp2_with fail
    refine (may_walk A B n c n d ⟨ns, is, kp, wy, od, nw⟩ w4).mono ?_
    rintro e w5 ⟨rfl, b5⟩
    have hd : decide (n = n ∧ 0 ≤ kp) = true := by simpa using hkp
    have p5 : Below W.heap.size W w5 := p4.trans (b5.mono p4.size)
    have HT5 := Lib.hid (HT.out.below b5)
    rw [hd]
    clear hd HT b5 c0 c1 c2 c3 c4 c5 p3 p4
    obtain ⟨c0, c1, c2, c3, c4, c5⟩ := H6.out.reads p5
    have HF : Hid (∀ w', Below w5.heap.size w5 w' → (w'.cell? ⟨R, 0, none⟩ = some (.slice A n c) ∧ w'.cell? ⟨R, 1, none⟩ = some (.slice B n d) ∧ w'.cell? ⟨R, 2, none⟩ = some (.int .i64 kp) ∧ w'.cell? ⟨R, 3, none⟩ = some (.int .i64 wy) ∧ w'.cell? ⟨R, 4, none⟩ = some (.int .i64 od) ∧ w'.cell? ⟨R, 5, none⟩ = some (.int .i64 nw))) := fun w' h => H6.out.reads (p5.trans (h.mono p5.size))
    have HP5 := Lib.hid p5
    clear p5
    go_wp2_with fail
    go_region_held3 (fun w' => w'.cell? ⟨R, 0, none⟩ = some (.slice A n c) ∧ w'.cell? ⟨R, 1, none⟩ = some (.slice B n d) ∧ w'.cell? ⟨R, 2, none⟩ = some (.int .i64 kp) ∧ w'.cell? ⟨R, 3, none⟩ = some (.int .i64 wy) ∧ w'.cell? ⟨R, 4, none⟩ = some (.int .i64 od) ∧ w'.cell? ⟨R, 5, none⟩ = some (.int .i64 nw)) (first | (refine HF.out _ ?_; go_grown; done) | go_keep) (first
      | (go_at_call 21; refine (len_walk (HT5.out.below (by go_grown))).mono ?_; rintro e w6 ⟨rfl, rfl⟩)
      | (go_at_call 17; refine (state_yes (HT5.out.below (by go_grown)) (i := 0) rfl (by decide) (by show (1 : Nat) ≤ 100000; omega)).mono ?_; rintro e w6 ⟨rfl, rfl⟩)
      | (go_at_call 19; refine (all_yes (HT5.out.below (by go_grown)) (i := 0) rfl (by decide) (by show (1 : Nat) ≤ 100000; omega)).mono ?_; rintro e w6 ⟨rfl, rfl⟩)
      | (go_at_call 16; refine (look_yes (HT5.out.below (by go_grown)) (i := 0) rfl (by decide) (by show (1 : Nat) ≤ 100000; omega)).mono ?_; rintro e w7 ⟨u7, v7, rfl, hu, hv, b7⟩
         obtain ⟨A7, n7, c7, rfl⟩ := hu.shape
         obtain ⟨B7, m7, d7, rfl⟩ := hv.shape
         have HU := Lib.hid hu.sl
         have HV := Lib.hid hv.sl
         have p7 : Below w5.heap.size w5 w7 := Below.trans (by go_grown) (b7.mono (by first | (simp; done) | (simp; omega) | omega | go_size))
         have q7 := p7.size
         have e1 : n = n7 := HN.out.len.trans HU.out.len.symm
         subst e1
         have e2 : n = m7 := HM.out.len.trans HV.out.len.symm
         subst e2
         clear b7 hu hv)
      | (go_at_call 15
         refine (lawSame_walk A7 B7 A B n c7 n d7 c d ⟨ns, is, kp, wy, od, nw⟩ _ (HU.out.below (by first | exact Below.refl _ _ | go_grown)) (HV.out.below (by first | exact Below.refl _ _ | go_grown)) ((HN.out.below HP5.out).below (by first | exact p7 | exact p7.drew | go_grown)) ((HM.out.below HP5.out).below (by first | exact p7 | exact p7.drew | go_grown)) (by omega) (by omega)).mono ?_
         rintro e w8 ⟨rfl, b8⟩
         have p8 : Below w5.heap.size w5 w8 := Below.trans p7 (Below.trans (by go_grown) (b8.mono (by first | (simp; done) | (simp; omega) | omega | go_size)))
         have q8 := p8.size
         clear b8))
    all_goals go_wp2
    all_goals go_ret
    all_goals exact ⟨rfl, HB.out.trans (Below.mono (HP5.out.trans (Below.mono (by first | exact p8 | exact p8.drew) HP5.out.size)) HRW.out)⟩
  · have hno : n ≠ m ∨ kp < 0 := by omega
    refine (make_no t3 A B n c m d ⟨ns, is, kp, wy, od, nw⟩ (by rcases hno with h | h; exact .inl h; exact .inr (.inl h))).mono ?_
    rintro e w4 ⟨rfl, b4⟩
    have p4 : Below W.heap.size W w4 := p3.trans (b4.mono p3.size)
    have t4 := t3.below b4
    clear c0 c1 c2 c3 c4 c5
    obtain ⟨c0, c1, c2, c3, c4, c5⟩ := H6.out.reads p4
    go_wp2_with fail
    refine (may_walk A B n c m d ⟨ns, is, kp, wy, od, nw⟩ w4).mono ?_
    rintro e w5 ⟨rfl, b5⟩
    have hd : decide (n = m ∧ 0 ≤ kp) = false := by simpa using hmay
    have p5 : Below W.heap.size W w5 := p4.trans (b5.mono p4.size)
    have t5 := t4.below b5
    rw [hd]
    clear hd hmay c0 c1 c2 c3 c4 c5 p3 p4 t3 t4 b4 b5 hno
    go_wp2_with fail
    refine (len_walk t5).mono ?_
    rintro e w6 ⟨rfl, rfl⟩
    go_wp2_with fail
    refine (look_no t5 (n := 1) (by right; show (0 : Int) < 1; decide)).mono ?_
    rintro e w6 ⟨u, v, rfl, hu, hv, b6⟩
    have p6 : Below W.heap.size W w6 := p5.trans (b6.mono p5.size)
    obtain ⟨A1, n1, d1, rfl⟩ := hu.shape
    obtain ⟨A2, n2, d2, rfl⟩ := hv.shape
    have s1 := hu.sl
    have s2 := hv.sl
    obtain rfl : n1 = 0 := s1.len
    obtain rfl : n2 = 0 := s2.len
    go_wp2_with fail
    refine (lawSame_walk A1 A2 none none 0 d1 0 d2 0 0 Rc.nil w6 s1 s2 (Sl.nil _) (Sl.nil _) (by omega) (by omega)).mono ?_
    rintro e w7 ⟨rfl, b7⟩
    have p7 : Below W.heap.size W w7 := p6.trans (b7.mono p6.size)
    clear s1 s2 hu hv
    go_wp2
    go_ret
    exact ⟨rfl, HB.out.trans (p7.mono HRW.out)⟩

set_option maxHeartbeats 4000000 in
theorem recordOthers_walk (k : Int) (s : Int) (w : World) :
    Calls Try.prog 6 #[.int .i64 k, .int .u8 s] w fun e w' => e = .returned (.bool true) ∧ Below w.heap.size w w' := by
  by_cases hk : k = 1 ∨ k = 2
  · rcases hk with rfl | rfl
    · go_enter Try.func6, Try.ntmps6
      go_wp2_with fail
      refine (awake_walk w).mono ?_
      rintro e w1 ⟨rfl, b1⟩
      go_wp2
      go_ret
      exact ⟨rfl, b1⟩
    · go_enter Try.func6, Try.ntmps6
      go_wp2_with fail
      refine (awake_walk w).mono ?_
      rintro e w1 ⟨rfl, b1⟩
      go_wp2
      go_ret
      exact ⟨rfl, b1⟩
  have k1 : (k == 1) = false := by simp; omega
  have k2 : (k == 2) = false := by simp; omega
  have k3 : ¬ (k = 1) := by omega
  have k4 : ¬ (k = 2) := by omega
  have HK : Hid (k < 1 ∨ (2 : Int) < k) := by show _ ∨ _; omega
  clear hk
  go_enter Try.func6, Try.ntmps6
  go_wp2_with fail
  refine (awake_walk w).mono ?_
  rintro e w1 ⟨rfl, b1⟩
  go_wp2_with fail
  refine (new_walk 9 w1).mono ?_
  rintro e w2 ⟨rfl, t2, b2⟩
  obtain ⟨a, ha⟩ : ∃ a, w1.heap.size = a := ⟨_, rfl⟩
  have HA := Lib.hid ha
  rw [ha] at t2 ⊢
  have hwa : w.heap.size ≤ a := by have := b1.size; omega
  have HA2 : Hid (a ≤ w2.heap.size) := by show _ ≤ _; have := b2.size; omega
  have p2 : Below w.heap.size w w2 := b1.trans (b2.mono b1.size)
  clear ha b1 b2
  go_wp2_with fail
  refine (make_yes t2 none none 0 0 0 ⟨[], [], 3, 0, 0, 0⟩ (Sl.nil _) (Sl.nil _) (by decide) (by decide) (by decide) (by decide)).mono ?_
  rintro e w3 ⟨rfl, h3⟩
  obtain ⟨F3, P3, u3, v3, t3, b3, f3⟩ := h3.below (B := a) (fun b e => by have : b = a := e; omega) HA2.out
  have HA3 : Hid (a ≤ w3.heap.size) := by show _ ≤ _; have := b3.size; have := HA2.out; omega
  have p3 : Below w.heap.size w w3 := p2.trans (b3.mono hwa)
  clear h3 b3 p2 t2
  go_wp2_with fail
  refine (make_yes t3 none none 0 0 0 ⟨[], [], 4, 0, 0, 0⟩ (Sl.nil _) (Sl.nil _) (by decide) (by show 1 < mostOf 9; decide) (by decide) (by decide)).mono ?_
  rintro e w4 ⟨rfl, h4⟩
  obtain ⟨F4, P4, u4, v4, t4, b4, f4⟩ := h4.below (B := a) f3 HA3.out
  have p4 : Below w.heap.size w w4 := p3.trans (b4.mono hwa)
  clear h4 b4 p3 t3 f3
  go_wp2_with fail
  refine (set_no t4 HK.out s).mono ?_
  rintro e w5 ⟨rfl, rfl⟩
  go_wp2_with fail
  refine (setAll_no t4 HK.out).mono ?_
  rintro e w5 ⟨rfl, rfl⟩
  go_wp2_with fail
  refine (state_no t4 HK.out).mono ?_
  rintro e w5 ⟨rfl, rfl⟩
  go_wp2_with fail
  refine (all_no t4 HK.out).mono ?_
  rintro e w5 ⟨rfl, rfl⟩
  go_wp2_with fail
  refine (look_no t4 HK.out).mono ?_
  rintro e w5 ⟨u, v, rfl, hu, hv, b5⟩
  have p5 : Below w.heap.size w w5 := p4.trans (b5.mono p4.size)
  have t5 := t4.below b5
  obtain ⟨A1, n1, d1, rfl⟩ := hu.shape
  obtain ⟨A2, n2, d2, rfl⟩ := hv.shape
  have s1 := hu.sl
  have s2 := hv.sl
  obtain rfl : n1 = 0 := s1.len
  obtain rfl : n2 = 0 := s2.len
  clear b5 t4 p4
  go_wp2_with fail
  refine (lawSame_walk A1 A2 none none 0 d1 0 d2 0 0 Rc.nil w5 s1 s2 (Sl.nil _) (Sl.nil _) (by omega) (by omega)).mono ?_
  rintro e w6 ⟨rfl, b6⟩
  have p6 : Below w.heap.size w w6 := p5.trans (b6.mono p5.size)
  have t6 := t5.below b6
  clear s1 s2 hu hv t5 p5 b6
  go_wp2_with fail
  refine (state_yes t6 (i := 0) rfl (by decide) (by show (2 : Nat) ≤ 100000; omega)).mono ?_
  rintro e w7 ⟨rfl, rfl⟩
  go_wp2_with fail
  refine (state_yes t6 (i := 1) rfl (by decide) (by show (2 : Nat) ≤ 100000; omega)).mono ?_
  rintro e w7 ⟨rfl, rfl⟩
  go_wp2_with fail
  refine (all_yes t6 (i := 0) rfl (by decide) (by show (2 : Nat) ≤ 100000; omega)).mono ?_
  rintro e w7 ⟨rfl, rfl⟩
  go_wp2_with fail
  refine (all_yes t6 (i := 1) rfl (by decide) (by show (2 : Nat) ≤ 100000; omega)).mono ?_
  rintro e w7 ⟨rfl, rfl⟩
  go_wp2_with fail
  refine (look_yes t6 (i := 1) rfl (by decide) (by show (2 : Nat) ≤ 100000; omega)).mono ?_
  rintro e w7 ⟨u7, v7, rfl, hu, hv, b7⟩
  have p7 : Below w.heap.size w w7 := p6.trans (b7.mono p6.size)
  have t7 := t6.below b7
  obtain ⟨A7, n7, d7, rfl⟩ := hu.shape
  obtain ⟨B7, m7, e7, rfl⟩ := hv.shape
  clear hu hv t6 p6 b7
  have hfd : ∀ W : World, (Instr.field 32 (.agg #[.slice A7 n7 d7, .slice B7 m7 e7, .int .i64 4, .int .i64 0, .int .i64 0, .int .i64 0]) 2).run Try.prog W = .ok (.int .i64 4) W := fun W => by kernel_rfl
  dsimp only [rcv]
  go_wp2_with fail
  refine (len_walk t7).mono ?_
  rintro e w8 ⟨rfl, rfl⟩
  go_wp2
  go_ret
  exact ⟨rfl, p7⟩
end Go.Proofs.Ytokheagoddmmiaa
