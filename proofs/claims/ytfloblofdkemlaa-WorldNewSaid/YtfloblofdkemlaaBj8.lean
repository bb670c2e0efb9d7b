/-
  What world's Begin comes to within work: touch by touch.
-/
import Derived.Test.YtfloblofdkemlaaBi8
namespace Go.Proofs.Ytfloblofdkemlaa
open Go.ChangeShapes Go.WideShapes Go.ChangeAt Go.RowKit
set_option linter.unusedVariables false
set_option linter.unusedSimpArgs false
set_option maxRecDepth 20000

section
variable {d : Wd} {R R' : Nat → Prop} {w w' w0 : World} {a st ph k me : Nat} {wk : Value} {zs : List Int} {c : Cur} {s : Sig} {n : Int} {α : Type}
variable {X : Nat → Prop} {p L N : Nat} {o : Out α} {wr w1 : World}
/-- A variable that was made, with a number in it. -/
theorem put_new (w : World) (z : Int) (t : TypeId) : Below w.heap.size w (w.alloc (.cells #[.int .i64 z] t)) ∧ (w.alloc (.cells #[.int .i64 z] t)).heap[w.heap.size]? = some (.cells #[.int .i64 z] t (0, 0)) ∧ (w.alloc (.cells #[.int .i64 z] t)).heap.size = w.heap.size + 1 := ⟨below_new w _, heap_alloc_new w _, by simp⟩
theorem num_cell {w : World} {q : Nat} {z : Int} {t : TypeId} (h : w.heap[q]? = some (.cells #[.int .i64 z] t (0, 0))) : w.cell? ⟨q, 0, none⟩ = some (.int .i64 z) := by rw [cell_of_row w q _ _ _ (0, 0) h]; rfl
/-- What comes behind Begin's first touch. -/
def kSay (N L me : Nat) (now : Int) : Tr Unit := .tch (gSay me now) fun _ => (tAll now L 0).bind fun b => (tSwap b now).bind fun _ => .tch gNow fun n => tFree me n N
def kNow (N me : Nat) : Tr Unit := .tch gNow fun n => tFree me n N
def kAll (N me : Nat) (now : Int) (b : Bool) : Tr Unit := (tSwap b now).bind fun _ => kNow N me
structure BV (d : Wd) (R : Nat → Prop) (w : World) (a me : Nat) (wk : Value) (p q L N : Nat) (o : Out Unit) (t : Tr Unit) (z : Int) (wr : World) (c : Cur) (s : Sig) : Prop where
  bs : BS d R (fun b => R b ∨ b = p ∨ b = q) w a me wk p L N o t wr c s
  var : wr.heap[q]? = some (.cells #[.int .i64 z] 2 (0, 0))
  ne : q ≠ p
  nR : ¬ R q
theorem BV.then {q : Nat} {o : Out Unit} {t t' : Tr Unit} {z : Int} {c' : Cur} {s' : Sig} (h : BV d R w a me wk p q L N o t z wr c s) (hB : BS d R (fun b => R b ∨ b = p ∨ b = q) w a me wk p L N o t' w1 c' s') (hK : Kp (fun b => R b ∨ b = p ∨ b = q) wr w1) : BV d R w a me wk p q L N o t' z w1 c' s' :=
  ⟨hB, (hK.block q (.inr (.inr rfl))).trans h.var, h.ne, h.nR⟩
theorem BS.last {t : Tr α} {U : α → Value} {e : Ending} (h : BS d R X w a me wk p L N o t wr c s) (hP : Post d X wr a wk U (run t c s) e w1) : Post d R w a wk U o e w1 := by
  rw [h.rn]; exact Post.from_ h.kp (hP.mono fun b e => h.sub b (.inl e))
theorem BV.cells {q : Nat} {o : Out Unit} {t : Tr Unit} {z : Int} (h : BV d R w a me wk p q L N o t z wr c s) : wr.cell? ⟨p, 0, none⟩ = some (ptr a) ∧ wr.cell? ⟨p, 1, none⟩ = some (ptr d.W) ∧ wr.cell? ⟨p, 2, none⟩ = some (.int .i64 (me : Int)) ∧ wr.cell? ⟨q, 0, none⟩ = some (.int .i64 z) ∧ wr.cell? ⟨d.W, 2, none⟩ = some (ptr d.E) :=
  ⟨h.bs.tk.c0, h.bs.tk.c1, h.bs.tk.c2, num_cell h.var, h.bs.wcell.1⟩
theorem gSwap_01 (n : Int) (s : Sig) : (gSwap n s).1 = 0 ∨ (gSwap n s).1 = 1 := by unfold gSwap; split <;> simp
theorem gSwap_len (n : Int) (s : Sig) : (gSwap n s).2.S = s.S := by unfold gSwap; split <;> rfl
set_option maxHeartbeats 4000000 in
theorem begin_touch (h : Lv d R w a wk c s) (hi : me < s.S.length) (hL : s.S.length ≤ 64) (hN : c.live = true → c.zs.length + 2 ≤ N) (hN1 : 2 ≤ N) :
    Calls Try.prog 37 #[tkV a d.W me] w (Post d R w a wk uV (run (tBegin N s.S.length me) c s)) := by
  have e3 := mk_fn
  obtain ⟨W, p, hW, hp, bb, tk, hsz⟩ := one_box w a d.W me
  obtain ⟨L, hl⟩ : ∃ n, s.S.length = n := ⟨_, rfl⟩
  rw [hl] at hL hi ⊢
  obtain ⟨o, ho⟩ : ∃ o, run (tBegin N L me) c s = o := ⟨_, rfl⟩
  rw [ho]
  have HB : Hid (BS d R (fun b => R b ∨ b = p) w a me wk p L N o (.tch gNow (kSay N L me)) W c s) := ⟨ho.symm, h.more bb (fun b e => e.imp id fun e => by omega), fun b e => e, Kp.new h bb, tk, hl, hN⟩
  have HR : Hid (∀ b, R b → b < W.heap.size) := fun b e => Nat.lt_of_lt_of_le (h.lt b e) bb.size
  have HP : Hid (p < W.heap.size) := by show p < W.heap.size; omega
  obtain ⟨t0, t1, t2⟩ := tk
  have g2 := HB.out.wcell.1
  clear h bb ho hl hsz hN
  go_enter Try.func37, Try.ntmps37
  go_upto_region 2 with fail
  clear hW hp
  go_cut [2] (fun v wx => ∃ (q : Nat) (z : Int) (c' : Cur) (s' : Sig), v = ptr q ∧ Hid (BV d R w a me wk p q L N o (kSay N L me z) z wx c' s'))
  case first =>
    refine region_T (fun k => k == 8 || k == 10) (fun w' => w'.cell? ⟨p, 0, none⟩ = some (ptr a) ∧ w'.cell? ⟨p, 1, none⟩ = some (ptr d.W) ∧ w'.cell? ⟨d.W, 2, none⟩ = some (ptr d.E)) (by kernel_rfl) ?_
    obtain ⟨X0, hX0, hbX0⟩ : ∃ X0 : World, W.drew = X0 ∧ Below W.heap.size W X0 := ⟨_, rfl, (Below.refl _ W).drew⟩
    have HB1 := Lib.hid (HB.out.below hbX0)
    have hC : X0.cell? ⟨p, 0, none⟩ = some (ptr a) ∧ X0.cell? ⟨p, 1, none⟩ = some (ptr d.W) ∧ X0.cell? ⟨d.W, 2, none⟩ = some (ptr d.E) := ⟨below_read hbX0 t0, below_read hbX0 t1, below_read hbX0 g2⟩
    rw [hX0]
    clear hX0 t0 t1 t2 g2
    refine takeW (i := 0) (v := ?_) rfl (by kernel_rfl) (by kernel_rfl) (by kernel_rfl) (by kernel_rfl) (by kernel_rfl) (fun _ _ _ h => h) hC (by rfl) ?_ ?_
    rotate_left
    · intro w hSw; (try dsimp only at hSw); go_simp; try (with_reducible rfl)
    try simp only [Act.put, List.setIfInBounds_toArray, List.set_cons_zero, List.set_cons_succ]
    refine takeW (i := 1) (v := ?_) rfl (by kernel_rfl) (by kernel_rfl) (by kernel_rfl) (by kernel_rfl) (by kernel_rfl) (fun _ _ _ h => h) hC (by rfl) ?_ ?_
    rotate_left
    · intro w hSw; (try dsimp only at hSw); go_simp; try (with_reducible rfl)
    try simp only [Act.put, List.setIfInBounds_toArray, List.set_cons_zero, List.set_cons_succ]
    refine takeW (i := 2) (v := ?_) rfl (by kernel_rfl) (by kernel_rfl) (by kernel_rfl) (by kernel_rfl) (by kernel_rfl) (fun _ _ _ h => h) hC (by rfl) ?_ ?_
    rotate_left
    · intro w hSw; (try dsimp only at hSw); go_simp; try (with_reducible rfl)
    try simp only [Act.put, List.setIfInBounds_toArray, List.set_cons_zero, List.set_cons_succ]
    refine takeW (i := 3) (v := ?_) rfl (by kernel_rfl) (by kernel_rfl) (by kernel_rfl) (by kernel_rfl) (by kernel_rfl) (fun _ _ _ h => h) hC (by rfl) ?_ ?_
    rotate_left
    · intro w hSw; (try dsimp only at hSw); go_simp; try (with_reducible rfl)
    try simp only [Act.put, List.setIfInBounds_toArray, List.set_cons_zero, List.set_cons_succ]
    refine takeW (i := 4) (v := ?_) rfl (by kernel_rfl) (by kernel_rfl) (by kernel_rfl) (by kernel_rfl) (by kernel_rfl) (fun _ _ _ h => h) hC (by rfl) ?_ ?_
    rotate_left
    · intro w hSw; (try dsimp only at hSw); go_simp; try (with_reducible rfl)
    try simp only [Act.put, List.setIfInBounds_toArray, List.set_cons_zero, List.set_cons_succ]
    refine takeW (i := 5) (v := ?_) rfl (by kernel_rfl) (by kernel_rfl) (by kernel_rfl) (by kernel_rfl) (by kernel_rfl) (fun _ _ _ h => h) hC (by rfl) ?_ ?_
    rotate_left
    · intro w hSw; (try dsimp only at hSw); go_simp; try (with_reducible rfl)
    try simp only [Act.put, List.setIfInBounds_toArray, List.set_cons_zero, List.set_cons_succ]
    refine takeW (i := 6) (v := ?_) rfl (by kernel_rfl) (by kernel_rfl) (by kernel_rfl) (by kernel_rfl) (by kernel_rfl) (fun _ _ _ h => h) hC (by rfl) ?_ ?_
    rotate_left
    · intro w hSw; (try dsimp only at hSw); go_simp; try (with_reducible rfl)
    try simp only [Act.put, List.setIfInBounds_toArray, List.set_cons_zero, List.set_cons_succ]
    refine takeW (i := 7) (v := ?_) rfl (by kernel_rfl) (by kernel_rfl) (by kernel_rfl) (by kernel_rfl) (by kernel_rfl) (fun _ _ _ h => h) hC (by rfl) ?_ ?_
    rotate_left
    · intro w hSw; (try dsimp only at hSw); go_simp; try (with_reducible rfl)
    try simp only [Act.put, List.setIfInBounds_toArray, List.set_cons_zero, List.set_cons_succ]
    refine twoT (i := 8) (j := 9) (by kernel_rfl) rfl rfl (by rfl) (by rfl) (fun K hK => ?_) (fun K hK => ?_)
    · go_simp
      refine (now_touch (U := uV) HB1.out).mono ?_
      rintro e w1 (⟨z, c1, s1, rfl, hz, hB, hKp⟩ | ⟨rfl, hP⟩)
      · refine hK.out _ _ (fun h => absurd h (by decide)) ?_
        clear hK K
        have HB2 := Lib.hid hB
        have hsz : X0.heap.size ≤ w1.heap.size := hKp.size
        obtain ⟨u1, u2, u3⟩ := put_new w1 z 2
        have HV : Hid (BV d R w a me wk p w1.heap.size L N o (kSay N L me z) z (w1.alloc (.cells #[.int .i64 z] 2)) c1 s1) :=
          ⟨hB.more u1 (fun b e => by rcases e with e | e | e; exact .inl (.inl e); exact .inl (.inr e); exact .inr (by omega)) (fun b e => by rcases e with e | e; exact .inl e; exact .inr (.inl e)), u2, by have := hB.lv.lt p (.inr rfl); omega, fun e => by have := hB.lv.lt _ (.inl e); omega⟩
        have hC1 : w1.cell? ⟨p, 0, none⟩ = some (ptr a) ∧ w1.cell? ⟨p, 1, none⟩ = some (ptr d.W) ∧ w1.cell? ⟨d.W, 2, none⟩ = some (ptr d.E) := ⟨hB.tk.c0, hB.tk.c1, hB.wcell.1⟩
        clear hB u1 u2 u3 hKp hC
        try simp only [Act.put, List.setIfInBounds_toArray, List.set_cons_zero, List.set_cons_succ]
        refine oneT (i := 9) (by kernel_rfl) rfl (by rfl) (fun K hK => ?_)
        go_simp
        refine hK.out _ _ (fun _ => ⟨c_old hC1.1, c_old hC1.2.1, c_old hC1.2.2⟩) ?_
        clear hK K
        try simp only [Act.put, List.setIfInBounds_toArray, List.set_cons_zero, List.set_cons_succ]
        refine oneT (i := 10) (by kernel_rfl) rfl (by rfl) (fun K hK => ?_)
        go_simp
        refine hK.out _ _ (fun h => absurd h (by decide)) ?_
        clear hK K
        try simp only [Act.put, List.setIfInBounds_toArray, List.set_cons_zero, List.set_cons_succ]
        refine doneT (by kernel_rfl) ?_
        go_wp2
        go_meet
        case rel => exact ⟨_, z, c1, s1, rfl, HV.out⟩
      · exact ⟨rfl, hP⟩
    · go_simp
      obtain ⟨X1, q, hX1, hq, b1, v1, s1⟩ : ∃ (X1 : World) (q : Nat), X0.alloc (.cells #[.int .i64 0] 2) = X1 ∧ X0.heap.size = q ∧ Below X0.heap.size X0 X1 ∧ X1.heap[q]? = some (.cells #[.int .i64 0] 2 (0, 0)) ∧ X1.heap.size = q + 1 := ⟨_, _, rfl, rfl, below_new _ _, heap_alloc_new _ _, by simp⟩
      (try rw [hX1]); (try rw [hq])
      refine hK.out _ _ (fun _ => ⟨below_read b1 hC.1, below_read b1 hC.2.1, below_read b1 hC.2.2⟩) ?_
      clear hK K hX1
      have HB2 : Hid (BS d R (fun b => R b ∨ b = p ∨ b = q) w a me wk p L N o (.tch gNow (kSay N L me)) X1 c s) := HB1.out.more b1 (fun b e => by rcases e with e | e | e; exact .inl (.inl e); exact .inl (.inr e); exact .inr (by omega)) (fun b e => by rcases e with e | e; exact .inl e; exact .inr (.inl e))
      have hqR : ¬ R q := fun e => by have := HR.out q e; have := hbX0.size; omega
      have hqp : q ≠ p := by have := HP.out; have := hbX0.size; omega
      try simp only [Act.put, List.setIfInBounds_toArray, List.set_cons_zero, List.set_cons_succ]
      refine oneT (i := 8) (by kernel_rfl) rfl (by rfl) (fun K hK => ?_)
      go_simp
      refine (now_touch (U := uV) HB2.out).mono ?_
      rintro e w1 (⟨z, c1, s2, rfl, hz, hB, hKp⟩ | ⟨rfl, hP⟩)
      · refine hK.out _ _ (fun h => absurd h (by decide)) ?_
        clear hK K
        have v2 : w1.heap[q]? = some (.cells #[.int .i64 0] 2 (0, 0)) := (hKp.block q (.inr (.inr rfl))).trans v1
        have d0 := num_cell v2
        have f0 : w1.frozen? ⟨q, 0, none⟩ = false := frozen_of_row w1 q 0 _ _ v2
        have HV : Hid (BV d R w a me wk p q L N o (kSay N L me z) z (w1.setCell ⟨q, 0, none⟩ (.int .i64 z)) c1 s2) := ⟨hB.setR (.inr (.inr rfl)) _ hqR hqp, heap_setCell_same w1 q 0 _ _ _ v2, hqp, hqR⟩
        clear hB hKp v1 v2 HB2 HB1 hC b1
        try simp only [Act.put, List.setIfInBounds_toArray, List.set_cons_zero, List.set_cons_succ]
        refine oneT (i := 10) (by kernel_rfl) rfl (by rfl) (fun K hK => ?_)
        go_simp
        refine hK.out _ _ (fun h => absurd h (by decide)) ?_
        clear hK K
        try simp only [Act.put, List.setIfInBounds_toArray, List.set_cons_zero, List.set_cons_succ]
        refine doneT (by kernel_rfl) ?_
        go_wp2
        go_meet
        case rel => exact ⟨_, z, c1, s2, rfl, HV.out⟩
      · exact ⟨rfl, hP⟩
  case rest =>
    clear HB HR HP t0 t1 t2 g2
    obtain ⟨q, z, c1, s1, rfl, HV⟩ := hcut
    obtain ⟨d0, d1, d2, d3, d4⟩ := HV.out.cells
    have HD := Lib.hid (say_touch (n := z) HV.out.bs.lv (fun _ => by rw [HV.out.bs.len]; exact hi))
    go_wp2_with fail
    refine HD.out.mono ?_
    clear HD d0 d1 d2 d3 d4
    intro e w1 hP
    have hT := BS.call (t := .tch (gSay me z) fun _ => .ret ()) (K := fun _ => (tAll z L 0).bind fun b => kAll N me z b) (U := uV) (Q := fun _ => True) HV.out.bs ⟨fun s e => (gSay_len me z s).trans e, fun _ => trivial⟩ (fun _ _ _ _ => trivial) hP
    clear hP
    obtain ⟨v, c2, s2, rfl, -, hB, hKp⟩ | ⟨rfl, hP⟩ := hT
    case inr => exact ⟨rfl, hP⟩
    have HV2 := Lib.hid (HV.out.then hB hKp)
    clear HV hB hKp
    obtain ⟨d0, d1, d2, d3, d4⟩ := HV2.out.cells
    have hlen := HV2.out.bs.len
    have HD := all_touch (me := me) (now := z) HV2.out.bs.lv (by rw [hlen]; exact hL)
    rw [hlen] at HD
    have HD := Lib.hid HD
    clear hlen
    go_wp2_with fail
    refine HD.out.mono ?_
    clear HD d0 d1 d2 d3 d4
    intro e w2 hP
    have hT := BS.call (t := tAll z L 0) (K := fun b => kAll N me z b) (U := uV) (Q := fun _ => True) HV2.out.bs (lenP_all L z L 0) (fun _ _ _ _ => trivial) hP
    clear hP
    obtain ⟨b, c3, s3, rfl, -, hB, hKp⟩ | ⟨rfl, hP⟩ := hT
    case inr => exact ⟨rfl, hP⟩
    have HV3 := Lib.hid (HV2.out.then hB hKp)
    clear HV2 hB hKp
    go_upto_if 20 with fail
    go_cut [] (fun wx => ∃ (c' : Cur) (s' : Sig), Hid (BV d R w a me wk p q L N o (kNow N me) z wx c' s'))
    case first =>
      cases b with
      | false =>
        go_wp2
        go_meet
        case rel => exact ⟨c3, s3, HV3.out⟩
      | true =>
        obtain ⟨d0, d1, d2, d3, d4⟩ := HV3.out.cells
        have HD := Lib.hid (ask_touch (f := 60) (cap := #[ptr p, ptr q]) (g := gSwap z) (fun W => rfl) HV3.out.bs.lv (fun _ => gSwap_01 z s3) (by
          intro hl w1 FW hWS hR hsz
          refine (swap1_walk hWS (HV3.out.bs.lv.fit hl) (HV3.out.bs.tk.cells (hR _ (.inr (.inl rfl))).1) (cell_same (hR _ (.inr (.inr rfl))).1 d3)).mono ?_
          rintro e w2 ⟨b, rfl, hb, hn⟩
          exact ⟨by rw [b2i_back hb], hn⟩))
        go_wp2_with fail
        refine HD.out.mono ?_
        clear HD d0 d1 d2 d3 d4
        intro e w3 hP
        have hT := BS.call (t := .tch (gSwap z) fun y => .ret (y != 0)) (K := fun _ : Bool => kNow N me) (U := uV) (Q := fun _ => True) HV3.out.bs ⟨fun s e => (by unfold lenP; rw [gSwap_len]; exact e), fun _ => trivial⟩ (fun _ _ _ _ => trivial) hP
        clear hP
        obtain ⟨v, c4, s4, rfl, -, hB, hKp⟩ | ⟨rfl, hP⟩ := hT
        case inr => exact ⟨rfl, hP⟩
        have HV4 := Lib.hid (HV3.out.then hB hKp)
        clear HV3 hB hKp
        go_wp2
        go_meet
        case rel => exact ⟨c4, s4, HV4.out⟩
    case rest =>
      clear HV3
      obtain ⟨c4, s4, HV4⟩ := hcut
      go_wp2_with fail
      refine region_T (fun k => k == 10) (fun w' => w'.cell? ⟨p, 0, none⟩ = some (ptr a) ∧ w'.cell? ⟨p, 1, none⟩ = some (ptr d.W) ∧ w'.cell? ⟨p, 2, none⟩ = some (.int .i64 (me : Int)) ∧ w'.cell? ⟨d.W, 2, none⟩ = some (ptr d.E)) (by kernel_rfl) ?_
      obtain ⟨X0, hX0, hbX0⟩ : ∃ X0 : World, wc.drew = X0 ∧ Below wc.heap.size wc X0 := ⟨_, rfl, (Below.refl _ wc).drew⟩
      have HB1 := Lib.hid (HV4.out.bs.below hbX0)
      have hC : X0.cell? ⟨p, 0, none⟩ = some (ptr a) ∧ X0.cell? ⟨p, 1, none⟩ = some (ptr d.W) ∧ X0.cell? ⟨p, 2, none⟩ = some (.int .i64 (me : Int)) ∧ X0.cell? ⟨d.W, 2, none⟩ = some (ptr d.E) := ⟨HB1.out.tk.c0, HB1.out.tk.c1, HB1.out.tk.c2, HB1.out.wcell.1⟩
      rw [hX0]
      clear hX0 HV4 hbX0
      refine takeW (i := 0) (v := ?_) rfl (by kernel_rfl) (by kernel_rfl) (by kernel_rfl) (by kernel_rfl) (by kernel_rfl) (fun _ _ _ h => h) hC (by rfl) ?_ ?_
      rotate_left
      · intro w hSw; (try dsimp only at hSw); go_simp; try (with_reducible rfl)
      try simp only [Act.put, List.setIfInBounds_toArray, List.set_cons_zero, List.set_cons_succ]
      refine takeW (i := 1) (v := ?_) rfl (by kernel_rfl) (by kernel_rfl) (by kernel_rfl) (by kernel_rfl) (by kernel_rfl) (fun _ _ _ h => h) hC (by rfl) ?_ ?_
      rotate_left
      · intro w hSw; (try dsimp only at hSw); go_simp; try (with_reducible rfl)
      try simp only [Act.put, List.setIfInBounds_toArray, List.set_cons_zero, List.set_cons_succ]
      refine takeW (i := 2) (v := ?_) rfl (by kernel_rfl) (by kernel_rfl) (by kernel_rfl) (by kernel_rfl) (by kernel_rfl) (fun _ _ _ h => h) hC (by rfl) ?_ ?_
      rotate_left
      · intro w hSw; (try dsimp only at hSw); go_simp; try (with_reducible rfl)
      try simp only [Act.put, List.setIfInBounds_toArray, List.set_cons_zero, List.set_cons_succ]
      refine takeW (i := 3) (v := ?_) rfl (by kernel_rfl) (by kernel_rfl) (by kernel_rfl) (by kernel_rfl) (by kernel_rfl) (fun _ _ _ h => h) hC (by rfl) ?_ ?_
      rotate_left
      · intro w hSw; (try dsimp only at hSw); go_simp; try (with_reducible rfl)
      try simp only [Act.put, List.setIfInBounds_toArray, List.set_cons_zero, List.set_cons_succ]
      refine takeW (i := 4) (v := ?_) rfl (by kernel_rfl) (by kernel_rfl) (by kernel_rfl) (by kernel_rfl) (by kernel_rfl) (fun _ _ _ h => h) hC (by rfl) ?_ ?_
      rotate_left
      · intro w hSw; (try dsimp only at hSw); go_simp; try (with_reducible rfl)
      try simp only [Act.put, List.setIfInBounds_toArray, List.set_cons_zero, List.set_cons_succ]
      refine takeW (i := 5) (v := ?_) rfl (by kernel_rfl) (by kernel_rfl) (by kernel_rfl) (by kernel_rfl) (by kernel_rfl) (fun _ _ _ h => h) hC (by rfl) ?_ ?_
      rotate_left
      · intro w hSw; (try dsimp only at hSw); go_simp; try (with_reducible rfl)
      try simp only [Act.put, List.setIfInBounds_toArray, List.set_cons_zero, List.set_cons_succ]
      refine takeW (i := 6) (v := ?_) rfl (by kernel_rfl) (by kernel_rfl) (by kernel_rfl) (by kernel_rfl) (by kernel_rfl) (fun _ _ _ h => h) hC (by rfl) ?_ ?_
      rotate_left
      · intro w hSw; (try dsimp only at hSw); go_simp; try (with_reducible rfl)
      try simp only [Act.put, List.setIfInBounds_toArray, List.set_cons_zero, List.set_cons_succ]
      refine takeW (i := 7) (v := ?_) rfl (by kernel_rfl) (by kernel_rfl) (by kernel_rfl) (by kernel_rfl) (by kernel_rfl) (fun _ _ _ h => h) hC (by rfl) ?_ ?_
      rotate_left
      · intro w hSw; (try dsimp only at hSw); go_simp; try (with_reducible rfl)
      try simp only [Act.put, List.setIfInBounds_toArray, List.set_cons_zero, List.set_cons_succ]
      refine takeW (i := 8) (v := ?_) rfl (by kernel_rfl) (by kernel_rfl) (by kernel_rfl) (by kernel_rfl) (by kernel_rfl) (fun _ _ _ h => h) hC (by rfl) ?_ ?_
      rotate_left
      · intro w hSw; (try dsimp only at hSw); go_simp; try (with_reducible rfl)
      try simp only [Act.put, List.setIfInBounds_toArray, List.set_cons_zero, List.set_cons_succ]
      refine oneT (i := 9) (by kernel_rfl) rfl (by rfl) (fun K hK => ?_)
      go_simp
      refine (now_touch (U := uV) HB1.out).mono ?_
      rintro e w3 (⟨n, c5, s5, rfl, hn, hB, hKp⟩ | ⟨rfl, hP⟩)
      case inr => exact ⟨rfl, hP⟩
      refine hK.out _ _ (fun _ => ⟨hB.tk.c0, hB.tk.c1, hB.tk.c2, hB.wcell.1⟩) ?_
      clear hK K HB1 hC hKp
      have HB := Lib.hid hB
      have HF := Lib.hid (free_touch (N := N) (n := n) hB.lv (fun _ => by rw [hB.len]; exact hi) hn.2 ⟨fun hl => by have := hB.fu hl; omega, fun _ => by omega⟩)
      clear hB hn
      try simp only [Act.put, List.setIfInBounds_toArray, List.set_cons_zero, List.set_cons_succ]
      refine oneT (i := 10) (by kernel_rfl) rfl (by rfl) (fun K hK => ?_)
      go_simp
      refine HF.out.mono ?_
      intro e w4 hP
      have hE := HB.out.last hP
      clear HF HB
      cases hr : run (tFree me n N) c5 s5 with
      | wait zs st s' =>
        rw [hr] at hP
        obtain ⟨-, rfl, -⟩ := hP
        exact ⟨rfl, hE⟩
      | ret v c6 s6 =>
        rw [hr] at hP
        obtain ⟨-, rfl, -⟩ := hP
        refine hK.out _ _ (fun h => absurd h (by decide)) ?_
        clear hK K hr
        refine doneT (by kernel_rfl) ?_
        (try simp only [Exit.inBlock, Exit.then])
        refine bodyPost_end (results_none rfl _ _ _) rfl ?_
        exact hE
end
end Go.Proofs.Ytfloblofdkemlaa
