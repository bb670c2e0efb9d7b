/-
  The law ArenaRuns.
-/
import Derived.Test.YtbalhjfkkigchaaDoesAll
import Derived.Test.YtbalhjfkkigchaaOpen4
namespace Go.Proofs.Ytbalhjfkkigchaa
open Go.ChangeShapes Go.WideShapes Go.ChangeAt Go.RowKit
set_option linter.unusedVariables false
set_option linter.unusedSimpArgs false
set_option maxRecDepth 20000

/-- An element of a slice of acts. -/
theorem acts_at {w w' : World} {A : Option Addr} {n : Nat} {l : List Ac} (h : Sts AcC 10 w A n l) (hb : Below w.heap.size w w') {k : Nat} (hk : k < n) : ∃ g off x A1 n1 c1 B1 m1 d1, A = some ⟨g, off, none⟩ ∧ g < w.heap.size ∧ Ac.wf x ∧ w'.cell? ⟨g, off + k * 10, none⟩ = some (.int .u8 x.do_) ∧ w'.cell? ⟨g, off + k * 10 + 1, none⟩ = some (.int .u8 x.on) ∧ w'.cell? ⟨g, off + k * 10 + 2, none⟩ = some (.int .i64 x.raw) ∧ w'.cell? ⟨g, off + k * 10 + 3, none⟩ = some (.int .i8 x.i) ∧ w'.cell? ⟨g, off + k * 10 + 4, none⟩ = some (.int .u8 x.old) ∧ w'.cell? ⟨g, off + k * 10 + 5, none⟩ = some (.int .u8 x.now) ∧ w'.cell? ⟨g, off + k * 10 + 6, none⟩ = some (.bool x.sm.x) ∧ w'.cell? ⟨g, off + k * 10 + 7, none⟩ = some (.bool x.sm.y) ∧ w'.cell? ⟨g, off + k * 10 + 8, none⟩ = some (.slice A1 n1 c1) ∧ w'.cell? ⟨g, off + k * 10 + 9, none⟩ = some (.slice B1 m1 d1) ∧ Sk .i8 (-128) 127 w A1 n1 x.sm.ks ∧ Sk .u8 0 255 w B1 m1 x.sm.ws := by
  obtain ⟨h1, _, h2⟩ := h
  have hl : k < l.length := by omega
  rcases h2 with rfl | ⟨b, off, rfl, hc⟩
  · simp at hl
  · obtain ⟨cs, hcl, hcc, hwf, A1, n1, c1, B1, m1, d1, rfl, s1, s2⟩ := hc k _ (List.getElem?_eq_getElem hl)
    have t0 := hcc 0 _ rfl
    have t1 := hcc 1 _ rfl
    have t2 := hcc 2 _ rfl
    have t3 := hcc 3 _ rfl
    have t4 := hcc 4 _ rfl
    have t5 := hcc 5 _ rfl
    have t6 := hcc 6 _ rfl
    have t7 := hcc 7 _ rfl
    have t8 := hcc 8 _ rfl
    have t9 := hcc 9 _ rfl
    have hg := World.block_lt_of_cell? w _ t0
    exact ⟨b, off, _, A1, n1, c1, B1, m1, d1, rfl, hg, hwf, (hb.cell (p := ⟨b, off + k * 10, none⟩) hg).trans t0, (hb.cell (p := ⟨b, off + k * 10 + 1, none⟩) hg).trans t1, (hb.cell (p := ⟨b, off + k * 10 + 2, none⟩) hg).trans t2, (hb.cell (p := ⟨b, off + k * 10 + 3, none⟩) hg).trans t3, (hb.cell (p := ⟨b, off + k * 10 + 4, none⟩) hg).trans t4, (hb.cell (p := ⟨b, off + k * 10 + 5, none⟩) hg).trans t5, (hb.cell (p := ⟨b, off + k * 10 + 6, none⟩) hg).trans t6, (hb.cell (p := ⟨b, off + k * 10 + 7, none⟩) hg).trans t7, (hb.cell (p := ⟨b, off + k * 10 + 8, none⟩) hg).trans t8, (hb.cell (p := ⟨b, off + k * 10 + 9, none⟩) hg).trans t9, s1, s2⟩

theorem k0_one (b : Nat) (cs : Array Value) : ∀ y ∈ [((b, cs, 38) : Nat × Array Value × TypeId)], y.2.2 ≠ 83 := by
  intro y hy
  rw [List.mem_singleton] at hy
  subst hy
  simp only
  decide
theorem pi_readsV {w wr : World} {F G : Nat → Prop} {p a b N : Nat} {S D : As} {rv : Value} {rs : List Int} {c0 c1 c2 c3 c4 c5 c6 c7 c8 c9 : Value} {K : List (Nat × Array Value × TypeId)} {t : TypeId} (h : PI w F G p a b S D rv rs ((N, #[c0, c1, c2, c3, c4, c5, c6, c7, c8, c9], t) :: K) wr) : wr.cell? ⟨p, 0, none⟩ = some (ptr a) ∧ wr.cell? ⟨p, 1, none⟩ = some (ptr b) ∧ wr.cell? ⟨N, 0, none⟩ = some c0 ∧ wr.cell? ⟨N, 1, none⟩ = some c1 ∧ wr.cell? ⟨N, 2, none⟩ = some c2 ∧ wr.cell? ⟨N, 3, none⟩ = some c3 ∧ wr.cell? ⟨N, 4, none⟩ = some c4 ∧ wr.cell? ⟨N, 5, none⟩ = some c5 ∧ wr.cell? ⟨N, 6, none⟩ = some c6 ∧ wr.cell? ⟨N, 7, none⟩ = some c7 ∧ wr.cell? ⟨N, 8, none⟩ = some c8 ∧ wr.cell? ⟨N, 9, none⟩ = some c9 := by
  have hk := (h.keep _ (List.mem_cons_self ..)).1
  exact ⟨h.cells.1, h.cells.2.1, ten_cells hk⟩

/-- A region walked with more held is one walked with less. -/
theorem wpAnyH_wider {P : Program} {md : Region.Mode} {ops : Array Oper} {Q : Exit → Act → World → Prop} {S S' : World → Prop} (hi : ∀ w, S' w → S w) : ∀ (fuel : Nat) (listed : Array Bool) (a : Act) (w : World), wpAnyH P md ops Q S' fuel listed a w → wpAnyH P md ops Q S fuel listed a w
  | 0, _, _, _, h => h
  | fuel + 1, _, _, _, h => ⟨h.1, fun i hj => wpOp_mono (fun a' w' h' => ⟨hi _ h'.1, wpAnyH_wider hi fuel _ a' w' h'.2⟩) (h.2 i hj)⟩
/-- From here on more may be held: the way back into the region is as good with S' as with S. -/
theorem shut_narrow {P : Program} {md : Region.Mode} {ops : Array Oper} {Q : Exit → Act → World → Prop} {S : World → Prop} {fuel : Nat} {listed : Array Bool} {K : Act → World → Prop} (S' : World → Prop)
    (h : Shut (∀ a w, S w → (S w → wpAnyH P md ops Q S fuel listed a w) → K a w)) (hi : ∀ w, S' w → S w) :
    Shut (∀ a w, S w → (S w → wpAnyH P md ops Q S fuel listed a w) → K a w) = Shut (∀ a w, S' w → (S' w → wpAnyH P md ops Q S' fuel listed a w) → K a w) :=
  propext ⟨fun _ a w s k => h.out a w (hi w s) (fun _ => wpAnyH_wider hi _ _ _ _ (k s)), fun _ => h⟩

set_option maxHeartbeats 8000000 in
theorem arenaRuns_walk (mo : Int) (A : Option Addr) (n c : Nat) (l : List Ac) (w : World) (hl : Sts AcC 10 w A n l) :
    Calls Try.prog 3 #[.int .i64 mo, .slice A n c] w fun e w' => e = .returned (.bool true) ∧ Below w.heap.size w w' := by
  have HL := Lib.hid hl
  have hmax := hl.2.1
  unfold maxLen at hmax
  clear hl
  by_cases hn : n ≤ 60
  case neg =>
    have h60 : (60 : Int) < (n : Int) := by omega
    go_enter Try.func3, Try.ntmps3
    go_wp2_with fail
    refine (awake_walk _).mono ?_
    rintro e w1 ⟨rfl, hb1⟩
    go_wp2
    go_ret
    exact ⟨rfl, hb1⟩
  have h60 : ¬ ((60 : Int) < (n : Int)) := by omega
  go_enter Try.func3, Try.ntmps3
  go_wp2_with fail
  refine (awake_walk _).mono ?_
  rintro e w1 ⟨rfl, hb1⟩
  go_wp2_with fail
  refine (new_walk mo w1).mono ?_
  rintro e w2 ⟨rfl, h2, b2⟩
  obtain ⟨a, ha⟩ : ∃ a, w1.heap.size = a := ⟨_, rfl⟩
  rw [ha] at h2 ⊢
  go_wp2_with fail
  refine (newD_walk mo w2).mono ?_
  rintro e w3 ⟨rfl, h3, b3⟩
  obtain ⟨b, hb⟩ : ∃ b, w2.heap.size = b := ⟨_, rfl⟩
  rw [hb] at h3 ⊢
  obtain ⟨p, hp⟩ : ∃ p, w3.heap.size = p := ⟨_, rfl⟩
  obtain ⟨M, hM⟩ : ∃ M, mostOf mo = M := ⟨_, rfl⟩
  rw [hM] at h2 h3
  have hb2 := hb1.trans (b2.mono hb1.size)
  have hb3 := hb2.trans (b3.mono hb2.size)
  have hab : a < b := by have := h2.lt a rfl; omega
  have hbp : b < p := by have := h3.lt b rfl; omega
  have hwa : w.heap.size ≤ a := by have := hb1.size; omega
  obtain ⟨W, hW, hPI⟩ : ∃ W : World, w3.alloc (.cells #[ptr a, ptr b, .slice none 0 0] 31) = W ∧ PI w (fun x => x = a) (fun x => x = b) p a b (As.new M) (As.new M) (.slice none 0 0) [] [] W :=
    ⟨_, rfl, (h2.below b3).below (below_new _ _), h3.below (below_new _ _), fun c e e2 => by omega, h_new hp, ⟨by omega, by omega⟩, Row.nil _ _ _, (fun c e => by cases e), (fun c e => by omega), by omega, (fun y hy => by cases hy), hb3.trans ((below_new w3 _).mono hb3.size)⟩
  have HPI := Lib.hid hPI
  go_wp2_with fail
  (try rw [hW]); (try rw [hp])
  clear hW hp hPI h2 h3 b2 b3 hb1 hb2 hb3 ha hb hM hab hbp hwa
  go_loopw [21] (fun i wr => ∃ (k : Nat), k ≤ n ∧ i = .int .i64 (k : Int) ∧ Hid (∃ F G S D rv rs, PI w F G p a b S D rv rs [] wr ∧ Inv k S D ∧ rs.length ≤ k)) (fun i _ => n - (intOf i).toNat)
  case atStart => exact ⟨0, by omega, rfl, _, _, _, _, _, _, HPI.out, Inv.new M, by simp⟩
  case round =>
    clear HPI
    obtain ⟨k, hk, rfl, HH⟩ := hrel
    obtain ⟨F, G, S, D, rv, rs, hP, hI, hrs⟩ := HH.out
    have HP := Lib.hid hP
    have HI := Lib.hid hI
    have HRS := Lib.hid hrs
    clear hP hI hrs HH
    by_cases hlt : k < n
    · obtain ⟨g, off, x, A1, n1, c1, B1, m1, d1, rfl, hgl, hxw, t0, t1, t2, t3, t4, t5, t6, t7, t8, t9, sk1, sk2⟩ := acts_at HL.out HP.out.below hlt
      have i0 : (0 : Int) ≤ (k : Int) := by omega
      have i1 : (k : Int) < (n : Int) := by omega
      have hkw : IntKind.i64.wrap ((k : Int) + 1) = (k : Int) + 1 := IntWalk.i64_in _ (by omega)
      have HS1 := Lib.hid sk1
      have HS2 := Lib.hid sk2
      have HXW := Lib.hid hxw
      clear sk1 sk2 hxw
      obtain ⟨bv, hbv⟩ : ∃ bv, wr.heap.size = bv := ⟨_, rfl⟩
      obtain ⟨W1, hW1, hbW1, hP1⟩ : ∃ W1 : World, wr.alloc (.cells #[.int .u8 x.do_, .int .u8 x.on, .int .i64 x.raw, .int .i8 x.i, .int .u8 x.old, .int .u8 x.now, .bool x.sm.x, .bool x.sm.y, .slice A1 n1 c1, .slice B1 m1 d1] 38) = W1 ∧ Below wr.heap.size wr W1 ∧ PI w F G p a b S D rv rs [(bv, #[.int .u8 x.do_, .int .u8 x.on, .int .i64 x.raw, .int .i8 x.i, .int .u8 x.old, .int .u8 x.now, .bool x.sm.x, .bool x.sm.y, .slice A1 n1 c1, .slice B1 m1 d1], 38)] W1 := ⟨_, rfl, below_new _ _, by rw [← hbv]; exact HP.out.add _ _ (by decide) (by decide)⟩
      have hcv : W1.heap[bv]? = some (.cells #[.int .u8 x.do_, .int .u8 x.on, .int .i64 x.raw, .int .i8 x.i, .int .u8 x.old, .int .u8 x.now, .bool x.sm.x, .bool x.sm.y, .slice A1 n1 c1, .slice B1 m1 d1] 38 (0, 0)) := by rw [← hW1]; exact h_new hbv
      obtain ⟨y0, y1, y2, y3, y4, y5, y6, y7, y8, y9⟩ := ten_cells hcv
      have HP1 := Lib.hid hP1
      go_wp2_with fail
      (try rw [hW1]); (try rw [hbv])
      clear hW1 hbv hP1 hcv t0 t1 t2 t3 t4 t5 t6 t7 t8 t9 hbW1
      have HF : Hid (∀ w', Below W1.heap.size W1 w' → (w'.cell? ⟨p, 0, none⟩ = some (ptr a) ∧ w'.cell? ⟨p, 1, none⟩ = some (ptr b) ∧ w'.cell? ⟨bv, 0, none⟩ = some (.int .u8 x.do_) ∧ w'.cell? ⟨bv, 1, none⟩ = some (.int .u8 x.on) ∧ w'.cell? ⟨bv, 2, none⟩ = some (.int .i64 x.raw) ∧ w'.cell? ⟨bv, 3, none⟩ = some (.int .i8 x.i) ∧ w'.cell? ⟨bv, 4, none⟩ = some (.int .u8 x.old) ∧ w'.cell? ⟨bv, 5, none⟩ = some (.int .u8 x.now) ∧ w'.cell? ⟨bv, 6, none⟩ = some (.bool x.sm.x) ∧ w'.cell? ⟨bv, 7, none⟩ = some (.bool x.sm.y) ∧ w'.cell? ⟨bv, 8, none⟩ = some (.slice A1 n1 c1) ∧ w'.cell? ⟨bv, 9, none⟩ = some (.slice B1 m1 d1))) := fun w' h => pi_readsV (HP1.out.next h)
      have SKW1 := Lib.hid (HS1.out.keep fun q hq => HP1.out.below.cell hq)
      have SKW2 := Lib.hid (HS2.out.keep fun q hq => HP1.out.below.cell hq)
      have hk60 : k ≤ 60 := by omega
      clear y0 y1 y2 y3 y4 y5 y6 y7 y8 y9
      go_region_held3 (fun w' => w'.cell? ⟨p, 0, none⟩ = some (ptr a) ∧ w'.cell? ⟨p, 1, none⟩ = some (ptr b) ∧ w'.cell? ⟨bv, 0, none⟩ = some (.int .u8 x.do_) ∧ w'.cell? ⟨bv, 1, none⟩ = some (.int .u8 x.on) ∧ w'.cell? ⟨bv, 2, none⟩ = some (.int .i64 x.raw) ∧ w'.cell? ⟨bv, 3, none⟩ = some (.int .i8 x.i) ∧ w'.cell? ⟨bv, 4, none⟩ = some (.int .u8 x.old) ∧ w'.cell? ⟨bv, 5, none⟩ = some (.int .u8 x.now) ∧ w'.cell? ⟨bv, 6, none⟩ = some (.bool x.sm.x) ∧ w'.cell? ⟨bv, 7, none⟩ = some (.bool x.sm.y) ∧ w'.cell? ⟨bv, 8, none⟩ = some (.slice A1 n1 c1) ∧ w'.cell? ⟨bv, 9, none⟩ = some (.slice B1 m1 d1)) (first | (refine HF.out _ ?_; go_grown; done) | exact HS4.out | (refine HF4.out _ ?_; go_grown; done) | go_keep) (first
        | (go_at_call 13; refine (does_walk (k0_one _ _) (HP1.out.next (by go_grown)) HI.out hk60 HRS.out x HXW.out A1 B1 n1 c1 m1 d1 (SKW1.out.below (by go_grown)) (SKW2.out.below (by go_grown))).mono ?_; rintro e w4 ⟨rfl, F4, G4, S4, D4, rv4, rs4, hP4, hI4, hr4⟩
           have HP4 := Lib.hid hP4
           have HI4 := Lib.hid hI4
           have HR4 := Lib.hid hr4
           obtain ⟨lA, PA, QA, hAA⟩ := hP4.arn
           obtain ⟨lD, PD, QD, hDD⟩ := hP4.doc
           have HAA := Lib.hid hAA
           have HDD := Lib.hid hDD
           obtain ⟨-, -, g2, g3⟩ := hDD.head1
           rw [← hI4.rel.most] at g2
           rw [← hI4.rel.flt] at g3
           have hbl4 : b < w4.heap.size := hDD.lta
           have hokA := Lib.hid (hI4.okS (by omega))
           have hokB := Lib.hid (hI4.okD (by omega))
           obtain ⟨UU, hUU⟩ : ∃ UU : Int, ((usedN D4.pls : Nat) : Int) = UU := ⟨_, rfl⟩
           have HUD := Lib.hid hUU
           have HUS : Hid ((S4.pls.length : Int) - (S4.fr.length : Int) = UU) := by show _ = _; rw [← hUU]; exact hI4.used
           have hu1 : (UU != UU) = false := by simp
           obtain ⟨FF, hFF⟩ : ∃ FF : Int, (S4.flt : Int) = FF := ⟨_, rfl⟩
           have HFF := Lib.hid hFF
           rw [hFF] at g3
           obtain ⟨MM, hMM⟩ : ∃ MM : Int, (S4.most : Int) = MM := ⟨_, rfl⟩
           have HMM := Lib.hid hMM
           rw [hMM] at g2
           have hf1 : (FF != FF) = false := by simp
           have hm1 : (MM != MM) = false := by simp
           have HS4 : Hid (w4.cell? ⟨p, 0, none⟩ = some (ptr a) ∧ w4.cell? ⟨p, 1, none⟩ = some (ptr b) ∧ w4.cell? ⟨bv, 0, none⟩ = some (.int .u8 x.do_) ∧ w4.cell? ⟨bv, 1, none⟩ = some (.int .u8 x.on) ∧ w4.cell? ⟨bv, 2, none⟩ = some (.int .i64 x.raw) ∧ w4.cell? ⟨bv, 3, none⟩ = some (.int .i8 x.i) ∧ w4.cell? ⟨bv, 4, none⟩ = some (.int .u8 x.old) ∧ w4.cell? ⟨bv, 5, none⟩ = some (.int .u8 x.now) ∧ w4.cell? ⟨bv, 6, none⟩ = some (.bool x.sm.x) ∧ w4.cell? ⟨bv, 7, none⟩ = some (.bool x.sm.y) ∧ w4.cell? ⟨bv, 8, none⟩ = some (.slice A1 n1 c1) ∧ w4.cell? ⟨bv, 9, none⟩ = some (.slice B1 m1 d1) ∧ w4.cell? ⟨b, 2, none⟩ = some (.int .i64 MM) ∧ w4.cell? ⟨b, 3, none⟩ = some (.int .i64 FF)) := by obtain ⟨r0, r1, r2, r3, r4, r5, r6, r7, r8, r9, r10, r11⟩ := pi_readsV HP4.out; exact ⟨r0, r1, r2, r3, r4, r5, r6, r7, r8, r9, r10, r11, g2, g3⟩
           have HF4 : Hid (∀ w', Below w4.heap.size w4 w' → (w'.cell? ⟨p, 0, none⟩ = some (ptr a) ∧ w'.cell? ⟨p, 1, none⟩ = some (ptr b) ∧ w'.cell? ⟨bv, 0, none⟩ = some (.int .u8 x.do_) ∧ w'.cell? ⟨bv, 1, none⟩ = some (.int .u8 x.on) ∧ w'.cell? ⟨bv, 2, none⟩ = some (.int .i64 x.raw) ∧ w'.cell? ⟨bv, 3, none⟩ = some (.int .i8 x.i) ∧ w'.cell? ⟨bv, 4, none⟩ = some (.int .u8 x.old) ∧ w'.cell? ⟨bv, 5, none⟩ = some (.int .u8 x.now) ∧ w'.cell? ⟨bv, 6, none⟩ = some (.bool x.sm.x) ∧ w'.cell? ⟨bv, 7, none⟩ = some (.bool x.sm.y) ∧ w'.cell? ⟨bv, 8, none⟩ = some (.slice A1 n1 c1) ∧ w'.cell? ⟨bv, 9, none⟩ = some (.slice B1 m1 d1) ∧ w'.cell? ⟨b, 2, none⟩ = some (.int .i64 MM) ∧ w'.cell? ⟨b, 3, none⟩ = some (.int .i64 FF))) := fun w' h => by obtain ⟨r0, r1, r2, r3, r4, r5, r6, r7, r8, r9, r10, r11⟩ := pi_readsV (HP4.out.next h); exact ⟨r0, r1, r2, r3, r4, r5, r6, r7, r8, r9, r10, r11, below_read h g2, below_read h g3⟩
           have HE := shut_narrow (fun w' => w'.cell? ⟨p, 0, none⟩ = some (ptr a) ∧ w'.cell? ⟨p, 1, none⟩ = some (ptr b) ∧ w'.cell? ⟨bv, 0, none⟩ = some (.int .u8 x.do_) ∧ w'.cell? ⟨bv, 1, none⟩ = some (.int .u8 x.on) ∧ w'.cell? ⟨bv, 2, none⟩ = some (.int .i64 x.raw) ∧ w'.cell? ⟨bv, 3, none⟩ = some (.int .i8 x.i) ∧ w'.cell? ⟨bv, 4, none⟩ = some (.int .u8 x.old) ∧ w'.cell? ⟨bv, 5, none⟩ = some (.int .u8 x.now) ∧ w'.cell? ⟨bv, 6, none⟩ = some (.bool x.sm.x) ∧ w'.cell? ⟨bv, 7, none⟩ = some (.bool x.sm.y) ∧ w'.cell? ⟨bv, 8, none⟩ = some (.slice A1 n1 c1) ∧ w'.cell? ⟨bv, 9, none⟩ = some (.slice B1 m1 d1) ∧ w'.cell? ⟨b, 2, none⟩ = some (.int .i64 MM) ∧ w'.cell? ⟨b, 3, none⟩ = some (.int .i64 FF)) ‹Shut _› (by rintro w ⟨r0, r1, r2, r3, r4, r5, r6, r7, r8, r9, r10, r11, -, -⟩; exact ⟨r0, r1, r2, r3, r4, r5, r6, r7, r8, r9, r10, r11⟩)
           simp only [HE] at *
           clear hP4 hI4 hr4 hAA hDD hUU hFF hMM)
        | (go_at_call 14; refine (used_walk (HAA.out.below (by go_grown)) hokA.out.len hokA.out.fr).mono ?_; rintro e w5 ⟨rfl, b5⟩; rw [HUS.out]
           have p5 : Below w4.heap.size w4 w5 := Below.trans (by go_grown) (b5.mono (by first | (simp; done) | (simp; omega) | omega | go_size))
           have q5 := p5.size
           have g2a := below_read p5 g2
           have g3a := below_read p5 g3
           clear b5)
        | (go_at_call 15; refine (usedD_walk ((HDD.out.below p5).below (by go_grown)) hokB.out.len).mono ?_; rintro e w6 ⟨rfl, b6⟩; rw [HUD.out]
           have p6 : Below w4.heap.size w4 w6 := Below.trans p5 (Below.trans (by go_grown) (b6.mono (by first | (simp; done) | (simp; omega) | omega | go_size)))
           have q6 := p6.size
           have g2b := below_read p6 g2
           have g3b := below_read p6 g3
           clear b6)
        | (go_at_call 16; refine (faults_walk ((HAA.out.below p6).below (by go_grown))).mono ?_; rintro e w7 ⟨rfl, rfl⟩; rw [HFF.out])
        | (go_at_call 17; refine (most_walk ((HAA.out.below p6).below (by go_grown))).mono ?_; rintro e w8 ⟨rfl, rfl⟩; rw [HMM.out]))
      all_goals go_wp2
      all_goals go_roundw
      all_goals first
        | exact ⟨k + 1, by omega, by go_num, _, _, _, _, _, _, (HP4.out.next p6).sub (by intro y hy; cases hy), HI4.out, HR4.out⟩
        | exact ⟨k + 1, by omega, by go_num, _, _, _, _, _, _, (HP4.out.next p6.drew).sub (by intro y hy; cases hy), HI4.out, HR4.out⟩
        | (simp [intOf]; omega)
    · have i1 : ¬ ((k : Int) < (n : Int)) := by omega
      obtain ⟨d0, d1, d2⟩ := HP.out.cells
      obtain ⟨lA, PA, QA, hAA⟩ := HP.out.arn
      obtain ⟨lD, PD, QD, hDD⟩ := HP.out.doc
      obtain ⟨-, -, g2, -⟩ := hDD.head1
      rw [← HI.out.rel.most] at g2
      obtain ⟨MM, hMM⟩ : ∃ MM : Int, (S.most : Int) = MM := ⟨_, rfl⟩
      have HMM := Lib.hid hMM
      rw [hMM] at g2
      have HAA := Lib.hid hAA
      have hm1 : (MM == MM) = true := by simp
      have hbl4 : b < wr.heap.size := hDD.lta
      have HF : Hid (∀ w', Below wr.heap.size wr w' → (w'.cell? ⟨p, 0, none⟩ = some (ptr a) ∧ w'.cell? ⟨p, 1, none⟩ = some (ptr b) ∧ w'.cell? ⟨b, 2, none⟩ = some (.int .i64 MM))) := fun w' h => ⟨below_read h d0, below_read h d1, below_read h g2⟩
      clear hAA hDD hMM
      go_wp2_with fail
      go_region_held3 (fun w' => w'.cell? ⟨p, 0, none⟩ = some (ptr a) ∧ w'.cell? ⟨p, 1, none⟩ = some (ptr b) ∧ w'.cell? ⟨b, 2, none⟩ = some (.int .i64 MM)) (first | (refine HF.out _ ?_; go_grown; done) | go_keep) (first
        | (go_at_call 17; refine (most_walk (HAA.out.below (by go_grown))).mono ?_; rintro e w8 ⟨rfl, rfl⟩; rw [HMM.out]))
      all_goals go_wp2
      all_goals go_ret
      all_goals exact ⟨rfl, by first | exact HP.out.below.drew | exact HP.out.below | exact below_drewN HP.out.below _⟩
end Go.Proofs.Ytbalhjfkkigchaa
