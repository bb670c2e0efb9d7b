/-
  What help's touch, set, take and settle come to within work.
-/
import Derived.Test.YtmhmgdpcibldlaaHo9
import Derived.Test.YtmhmgdpcibldlaaBi8
import Derived.Deep.LoopGhost
import Derived.Lib.MinMax
namespace Go.Proofs.Ytmhmgdpcibldlaa
open Go.ChangeShapes Go.WideShapes Go.ChangeAt Go.RowKit
set_option linter.unusedVariables false
set_option linter.unusedSimpArgs false
set_option maxRecDepth 20000

section
variable {d : Wd} {R R' : Nat → Prop} {w w' w0 : World} {a st ph k me : Nat} {wk : Value} {zs : List Int} {c : Cur} {s : Sig} {V : Int → Value} {f : Nat} {cap : Array Value} {g : Sig → Int × Sig} {n : Int}
theorem htouch1_walk {Bx : Nat} (hen : ∀ W : World, (callFunc f cap).run Try.prog W = .ok (.enter f cap) W) (hc : w.cell? ⟨Bx, 0, none⟩ = some (.func (.func f) #[] cap)) {S : World → Prop}
    (ht : Calls Try.prog f cap w fun e w2 => e = .returned (.tuple #[]) ∧ S w2) :
    Calls Try.prog 111 #[ptr Bx] w fun e w2 => e = .returned (.int .i64 0) ∧ S w2 := by
  go_enter Try.func111, Try.ntmps111
  go_wp2_with fail
  refine ht.mono ?_
  clear ht
  rintro e w2 ⟨rfl, hS⟩
  have HS := Lib.hid hS
  clear hS hc hen
  go_wp2
  go_ret
  exact ⟨rfl, HS.out⟩
theorem htouch (hen : ∀ W : World, (callFunc f cap).run Try.prog W = .ok (.enter f cap) W) (h : Lv d R w a wk c s) (hg : c.live = true → (g s).1 = 0) (ht : c.live = true → TouV noV d s R w f cap g) :
    Calls Try.prog 99 #[tkV a d.W me, .func (.func f) #[] cap] w (Post d R w a wk uV (run (.tch g fun _ => .ret ()) c s)) := by
  have e3 := mk_fn
  have hrb : run (.tch g fun _ => .ret ()) c s = (run (tDo g) c s).bind fun z c s => .ret () c s := run_bind (tDo g) (fun z => .ret ()) c s
  rw [hrb]
  clear hrb
  obtain ⟨W, p, q, hW, hp, hq, bb, tk, cc, hsz⟩ := two_boxes w a d.W me (.func (.func f) #[] cap) 1
  have h1 : Lv d (fun b => R b ∨ b = q) W a wk c s := h.more bb (fun b e => e.imp id fun e => by omega)
  have hdo := do_touch (f := 111) (cap := #[ptr q]) (g := g) (fun W => rfl) h1 (fun hl => by rw [hg hl]; unfold in64; omega) (by
    intro hl w1 FW hWS hR hsz
    have hc1 := cell_same (hR _ (.inr rfl)).1 cc
    have hx := ht hl w1 FW hWS (fun b e => ⟨(hR b (.inl e)).1.trans (bb.block b (h.lt b e)), (hR b (.inl e)).2⟩) (Nat.le_trans bb.size hsz)
    rw [hg hl]
    exact htouch1_walk hen hc1 hx)
  have HK := Lib.hid (Kp.new h bb)
  have t0 := tk.c0
  have HD := Lib.hid hdo
  clear h ht bb cc hen h1 hg hsz tk hdo
  generalize run (tDo g) c s = o at HD ⊢
  go_enter Try.func99, Try.ntmps99
  go_wp2_with fail
  refine HD.out.mono ?_
  clear HD
  rintro e w1 hP
  cases o with
  | wait zs st s' =>
    obtain ⟨k1, rfl, k2⟩ := hP
    exact ⟨rfl, HK.out.trans (k1.mono fun b e => .inl e), rfl, k2.mono fun b e => .inl e⟩
  | ret z c' s' =>
    obtain ⟨k1, rfl, k2⟩ := hP
    have HE : Hid (Post d R w a wk uV (.ret () c' s') (.returned (.tuple #[])) w1) := ⟨HK.out.trans (k1.mono fun b e => .inl e), rfl, k2.mono fun b e => .inl e⟩
    clear k1 k2 t0
    go_wp2
    ((try simp only [Exit.inBlock, Exit.then]); refine bodyPost_end (results_none rfl _ _ _) rfl ?_)
    exact HE.out
/-- Three boxes, four boxes. -/
theorem three_boxes (w : World) (a W me : Nat) (v1 v2 : Value) (t1 t2 : TypeId) : ∃ (X : World) (p q r : Nat), ((w.alloc (.cells #[ptr a, ptr W, .int .i64 (me : Int)] tkT)).alloc (.cells #[v1] t1)).alloc (.cells #[v2] t2) = X ∧ w.heap.size = p ∧ p + 1 = q ∧ q + 1 = r ∧ Below w.heap.size w X ∧ Tk X p a W me ∧ X.cell? ⟨q, 0, none⟩ = some v1 ∧ X.cell? ⟨r, 0, none⟩ = some v2 ∧ X.heap.size = r + 1 :=
  ⟨_, _, _, _, rfl, rfl, rfl, rfl, (((Below.refl _ w).alloc (Nat.le_refl _) _).alloc (by simp) _).alloc (by simp; omega) _, ⟨c_old (c_old (Tk.new w a W me).c0), c_old (c_old (Tk.new w a W me).c1), c_old (c_old (Tk.new w a W me).c2)⟩, c_old (c_new (by simp) rfl), c_new (by simp) rfl, by simp⟩
theorem four_boxes (w : World) (a W me : Nat) (v1 v2 v3 : Value) (t1 t2 t3 : TypeId) : ∃ (X : World) (p q r u : Nat), (((w.alloc (.cells #[ptr a, ptr W, .int .i64 (me : Int)] tkT)).alloc (.cells #[v1] t1)).alloc (.cells #[v2] t2)).alloc (.cells #[v3] t3) = X ∧ w.heap.size = p ∧ p + 1 = q ∧ q + 1 = r ∧ r + 1 = u ∧ Below w.heap.size w X ∧ Tk X p a W me ∧ X.cell? ⟨q, 0, none⟩ = some v1 ∧ X.cell? ⟨r, 0, none⟩ = some v2 ∧ X.cell? ⟨u, 0, none⟩ = some v3 ∧ X.heap.size = u + 1 :=
  ⟨_, _, _, _, _, rfl, rfl, rfl, rfl, rfl, ((((Below.refl _ w).alloc (Nat.le_refl _) _).alloc (by simp) _).alloc (by simp; omega) _).alloc (by simp; omega) _, ⟨c_old (c_old (c_old (Tk.new w a W me).c0)), c_old (c_old (c_old (Tk.new w a W me).c1)), c_old (c_old (c_old (Tk.new w a W me).c2))⟩, c_old (c_old (c_new (by simp) rfl)), c_old (c_new (by simp) rfl), c_new (by simp) rfl, by simp⟩
theorem set_touch {t : Int} (h : Lv d R w a wk c s) :
    Calls Try.prog 98 #[tkV a d.W me, .int .i64 n, .int .u8 t] w (Post d R w a wk uV (run (tSet n t) c s)) := by
  have e3 := mk_fn
  obtain ⟨W, p, q, r, hW, hp, hq, hr, bb, tk, v1, v2, hsz⟩ := three_boxes w a d.W me (.int .i64 n) (.int .u8 t) 2 46
  have h1 : Lv d (fun b => R b ∨ b = p ∨ b = q ∨ b = r) W a wk c s := h.more bb (fun b e => e.imp id fun e => by omega)
  have HD := Lib.hid (htouch (me := me) (f := 110) (cap := #[ptr p, ptr q, ptr r]) (g := gSet n t) (fun W => rfl) h1 (fun _ => rfl) (by
    intro hl w1 FW hWS hR hsz
    exact set1_walk hWS (h.fit hl) (tk.cells (hR _ (.inr (.inl rfl))).1) (cell_same (hR _ (.inr (.inr (.inl rfl)))).1 v1) (cell_same (hR _ (.inr (.inr (.inr rfl)))).1 v2)))
  have HK := Lib.hid (Kp.new h bb)
  obtain ⟨t0, t1, t2⟩ := tk
  unfold tSet
  clear h bb v1 v2 h1 hsz
  generalize run (.tch (gSet n t) fun _ => .ret ()) c s = o at HD ⊢
  go_enter Try.func98, Try.ntmps98
  go_wp2_with fail
  refine HD.out.mono ?_
  clear HD
  rintro e w1 hP
  have hP2 := Post.from_ HK.out (hP.mono fun b e => .inl e)
  cases o with
  | wait zs st s' =>
    obtain ⟨k1, rfl, k2⟩ := hP2
    exact ⟨rfl, k1, rfl, k2⟩
  | ret z c' s' =>
    obtain ⟨k1, rfl, k2⟩ := hP
    have HE := Lib.hid hP2
    clear k1 k2 hP2 t0 t1 t2
    go_wp2
    ((try simp only [Exit.inBlock, Exit.then]); refine bodyPost_end (results_none rfl _ _ _) rfl ?_)
    exact HE.out
theorem swapInfo_01 (r o n : Int) (s : Sig) : (gSwapInfo r o n s).1 = 0 ∨ (gSwapInfo r o n s).1 = 1 := by
  simp only [gSwapInfo, gAr, As.with]
  split
  · split <;> simp
  · simp
theorem swapWay_01 (r k o n : Int) (s : Sig) : (gSwapWay r k o n s).1 = 0 ∨ (gSwapWay r k o n s).1 = 1 := by
  simp only [gSwapWay, gAr, As.with]
  split
  · split <;> simp
  · simp
theorem all_01 (n : Int) (s : Sig) : (gAll n s).1 = 0 ∨ (gAll n s).1 = 1 := by
  simp only [gAll]
  split
  · rename_i x _; cases x.all <;> simp [b2i]
  · simp
theorem info_in (hf : Fit s) (r : Int) : in64 (gInfo r s).1 := by
  simp only [gInfo, gAr, As.with]
  split
  · rename_i i p hh
    exact hf.rc.2 p (List.mem_of_getElem? (hit_some hh).1)
  · unfold in64; omega
set_option maxHeartbeats 1000000 in
theorem take_touch {r o : Int} (h : Lv d R w a wk c s) :
    Calls Try.prog 78 #[tkV a d.W me, .int .i64 r, .int .i64 o, .int .i64 n] w (Post d R w a wk bV (run (tTake r o n) c s)) := by
  have e3 := mk_fn
  obtain ⟨W, p, q1, q2, q3, hW, hp, hq1, hq2, hq3, bb, tk, v1, v2, v3, hsz⟩ := four_boxes w a d.W me (.int .i64 r) (.int .i64 o) (.int .i64 n) 34 2 2
  obtain ⟨u, hu⟩ : ∃ u, run (tTake r o n) c s = u := ⟨_, rfl⟩
  rw [hu]
  have HB : Hid (BS d R (fun b => R b ∨ p ≤ b ∧ b ≤ q3) w a me wk p s.S.length (c.zs.length + 2) u (tTake r o n) W c s) := ⟨hu.symm, h.more bb (fun b e => e.imp id fun e => by omega), fun b e => e.imp id fun e => by omega, Kp.new h bb, tk, rfl, fun _ => Nat.le_refl _⟩
  have HX : Hid (p ≤ q1 ∧ q1 ≤ q3 ∧ p ≤ q2 ∧ q2 ≤ q3 ∧ p ≤ q3) := ⟨by omega, by omega, by omega, by omega, by omega⟩
  generalize s.S.length = L at HB
  generalize c.zs.length + 2 = N at HB
  have HD := Lib.hid (ask_touch (f := 95) (cap := #[ptr p, ptr q1, ptr q2, ptr q3]) (g := gSwapInfo r o n) (fun W => rfl) HB.out.lv (fun _ => swapInfo_01 r o n s) (by
    intro hl w1 FW hWS hR hsz
    obtain ⟨x1, x2, x3, x4, x5⟩ := HX.out
    exact take1_walk hWS (h.fit hl) (tk.cells (hR _ (.inr ⟨by omega, by omega⟩)).1) (cell_same (hR _ (.inr ⟨by omega, by omega⟩)).1 v1) (cell_same (hR _ (.inr ⟨by omega, by omega⟩)).1 v2) (cell_same (hR _ (.inr ⟨by omega, by omega⟩)).1 v3)))
  have HV1 := Lib.hid v1
  have HV3 := Lib.hid v3
  obtain ⟨t0, t1, t2⟩ := tk
  clear h bb hu hsz v1 v2 v3
  go_enter Try.func78, Try.ntmps78
  go_wp2_with fail
  clear hW hp hq1 hq2 hq3
  refine HD.out.mono ?_
  clear HD t0 t1 t2
  intro e w1 hP
  have hT := BS.call (t := .tch (gSwapInfo r o n) fun y => .ret (y != 0)) (K := fun b => if b = true then .ret true else .tch (gInfo r) fun y => .ret (y == n)) (U := bV) (Q := fun _ => True) HB.out ⟨fun s e => (by unfold lenP at e ⊢; exact e), fun _ => trivial⟩ (fun _ _ _ _ => trivial) hP
  clear hP
  obtain ⟨v, c2, s2, rfl, -, hB, hKp⟩ | ⟨rfl, hP⟩ := hT
  case inr => exact ⟨rfl, hP⟩
  have hv1 := hKp.read (.inr ⟨HX.out.1, HX.out.2.1⟩) HV1.out
  have hv3 := hKp.read (.inr ⟨HX.out.2.2.2.2, Nat.le_refl _⟩) HV3.out
  clear HB hKp HV1 HV3
  cases v with
  | true =>
    have HE := Lib.hid (BS.end_ (U := bV) hB)
    clear hB hv1 hv3
    go_wp2
    go_ret
    exact HE.out
  | false =>
    have HB : Hid (BS d R (fun b => R b ∨ p ≤ b ∧ b ≤ q3) w a me wk p L N u (.tch (gInfo r) fun y => .ret (y == n)) w1 c2 s2) := hB
    have HV1 := Lib.hid hv1
    have HV3 := Lib.hid hv3
    clear hB hv1 hv3
    go_wp2_with fail
    refine region_T (fun _ => false) (fun w' => w'.cell? ⟨p, 0, none⟩ = some (ptr a) ∧ w'.cell? ⟨q3, 0, none⟩ = some (.int .i64 n)) (by kernel_rfl) ?_
    obtain ⟨X0, hX0, hbX0⟩ : ∃ X0 : World, w1.drew = X0 ∧ Below w1.heap.size w1 X0 := ⟨_, rfl, (Below.refl _ w1).drew⟩
    have HB1 := Lib.hid (HB.out.below hbX0)
    have hC : X0.cell? ⟨p, 0, none⟩ = some (ptr a) ∧ X0.cell? ⟨q3, 0, none⟩ = some (.int .i64 n) := ⟨HB1.out.tk.c0, below_read hbX0 HV3.out⟩
    have HV1' := Lib.hid (below_read hbX0 HV1.out)
    rw [hX0]
    clear hX0 HB HV1 HV3 hbX0
    refine takeW (i := 0) (v := ?_) rfl (by kernel_rfl) (by kernel_rfl) (by kernel_rfl) (by kernel_rfl) (by kernel_rfl) (fun _ _ _ h => h) hC (by rfl) ?_ ?_
    rotate_left
    · intro w hSw; (try dsimp only at hSw); go_simp; try (with_reducible rfl)
    try simp only [Act.put, List.setIfInBounds_toArray, List.set_cons_zero, List.set_cons_succ]
    refine takeW (i := 1) (v := ?_) rfl (by kernel_rfl) (by kernel_rfl) (by kernel_rfl) (by kernel_rfl) (by kernel_rfl) (fun _ _ _ h => h) hC (by rfl) ?_ ?_
    rotate_left
    · intro w hSw; (try dsimp only at hSw); go_simp; try (with_reducible rfl)
    try simp only [Act.put, List.setIfInBounds_toArray, List.set_cons_zero, List.set_cons_succ]
    refine takeW (i := 2) (v := ?_) rfl (by kernel_rfl) (by kernel_rfl) (by kernel_rfl) (by kernel_rfl) (by kernel_rfl) (fun _ _ _ h => h) hC (by rfl) ?_ ?_
    rotate_left
    · intro w hSw; (try dsimp only at hSw); go_simp; try (with_reducible rfl)
    try simp only [Act.put, List.setIfInBounds_toArray, List.set_cons_zero, List.set_cons_succ]
    refine takeW (i := 4) (v := ?_) rfl (by kernel_rfl) (by kernel_rfl) (by kernel_rfl) (by kernel_rfl) (by kernel_rfl) (fun _ _ _ h => h) hC (by rfl) ?_ ?_
    rotate_left
    · intro w hSw; (try dsimp only at hSw); go_simp; try (with_reducible rfl)
    try simp only [Act.put, List.setIfInBounds_toArray, List.set_cons_zero, List.set_cons_succ]
    refine oneT (i := 3) (by kernel_rfl) rfl (by rfl) (fun K hK => ?_)
    go_simp
    refine (do_touch (f := 96) (cap := #[ptr p, ptr q1]) (g := gInfo r) (fun W => rfl) HB1.out.lv (fun hl => info_in (HB1.out.lv.fit hl) r) (by
      intro hl w1 FW hWS hR hsz
      obtain ⟨x1, x2, x3, x4, x5⟩ := HX.out
      exact take2_walk hWS (HB1.out.lv.fit hl) (HB1.out.tk.cells (hR _ (.inr ⟨by omega, by omega⟩)).1) (cell_same (hR _ (.inr ⟨by omega, by omega⟩)).1 HV1'.out))).mono ?_
    intro e w2 hP
    have hT := BS.call (t := tDo (gInfo r)) (K := fun y => .ret (y == n)) (U := bV) (Q := fun _ => True) HB1.out ⟨fun s e => (by unfold lenP at e ⊢; exact e), fun _ => trivial⟩ (fun _ _ _ _ => trivial) hP
    clear hP
    obtain ⟨v, c3, s3, rfl, -, hB, hKp⟩ | ⟨rfl, hP⟩ := hT
    case inr => exact ⟨rfl, hP⟩
    have hC2 : w2.cell? ⟨p, 0, none⟩ = some (ptr a) ∧ w2.cell? ⟨q3, 0, none⟩ = some (.int .i64 n) := ⟨hB.tk.c0, hKp.read (.inr ⟨HX.out.2.2.2.2, Nat.le_refl _⟩) hC.2⟩
    refine hK.out _ _ (fun _ => hC2) ?_
    have HE := Lib.hid (BS.end_ (U := bV) hB)
    clear hK K hC hB hKp HB1 HV1'
    have hC := hC2
    clear hC2
    try simp only [Act.put, List.setIfInBounds_toArray, List.set_cons_zero, List.set_cons_succ]
    refine oneT (i := 5) (by kernel_rfl) rfl (by rfl) (fun K hK => ?_)
    go_simp
    refine hK.out _ _ (fun _ => hC) ?_
    clear hK K
    try simp only [Act.put, List.setIfInBounds_toArray, List.set_cons_zero, List.set_cons_succ]
    refine oneT (i := 6) (by kernel_rfl) rfl (by rfl) (fun K hK => ?_)
    go_simp
    refine hK.out _ _ (fun _ => hC) ?_
    clear hK K
    try simp only [Act.put, List.setIfInBounds_toArray, List.set_cons_zero, List.set_cons_succ]
    refine doneT (by kernel_rfl) ?_
    clear hC
    go_wp2
    go_ret
    exact HE.out
set_option maxHeartbeats 1000000 in
theorem settle_touch (h : Lv d R w a wk c s) :
    Calls Try.prog 79 #[tkV a d.W me, .int .i64 n] w (Post d R w a wk bV (run (tSettle n) c s)) := by
  have e3 := mk_fn
  obtain ⟨W, p, q, hW, hp, hq, bb, tk, v1, hsz⟩ := two_boxes w a d.W me (.int .i64 n) 2
  obtain ⟨u, hu⟩ : ∃ u, run (tSettle n) c s = u := ⟨_, rfl⟩
  rw [hu]
  have HB : Hid (BS d R (fun b => R b ∨ b = p ∨ b = q) w a me wk p s.S.length (c.zs.length + 2) u (tSettle n) W c s) := ⟨hu.symm, h.more bb (fun b e => e.imp id fun e => by omega), fun b e => e.imp id fun e => .inl e, Kp.new h bb, tk, rfl, fun _ => Nat.le_refl _⟩
  generalize s.S.length = L at HB
  generalize c.zs.length + 2 = N at HB
  have HD := Lib.hid (ask_touch (f := 97) (cap := #[ptr p, ptr q]) (g := gAll n) (fun W => rfl) HB.out.lv (fun _ => all_01 n s) (by
    intro hl w1 FW hWS hR hsz
    exact settle1_walk hWS (h.fit hl) (tk.cells (hR _ (.inr (.inl rfl))).1) (cell_same (hR _ (.inr (.inr rfl))).1 v1)))
  have HV1 := Lib.hid v1
  obtain ⟨t0, t1, t2⟩ := tk
  clear h bb hu hsz v1
  go_enter Try.func79, Try.ntmps79
  go_wp2_with fail
  clear hW hp hq
  refine HD.out.mono ?_
  clear HD t0 t1 t2
  intro e w1 hP
  have hT := BS.call (t := .tch (gAll n) fun y => .ret (y != 0)) (K := fun b => if b = true then .ret true else (tSet n 0).bind fun _ => .ret false) (U := bV) (Q := fun _ => True) HB.out ⟨fun s e => (by unfold lenP at e ⊢; exact e), fun _ => trivial⟩ (fun _ _ _ _ => trivial) hP
  clear hP
  obtain ⟨v, c2, s2, rfl, -, hB, hKp⟩ | ⟨rfl, hP⟩ := hT
  case inr => exact ⟨rfl, hP⟩
  have hv1 := hKp.read (.inr (.inr rfl)) HV1.out
  clear HB hKp HV1
  cases v with
  | true =>
    have HE := Lib.hid (BS.end_ (U := bV) hB)
    clear hB hv1
    go_wp2
    go_ret
    exact HE.out
  | false =>
    have HB : Hid (BS d R (fun b => R b ∨ b = p ∨ b = q) w a me wk p L N u ((tSet n 0).bind fun _ => .ret false) w1 c2 s2) := hB
    have HD := Lib.hid (set_touch (me := me) (n := n) (t := 0) HB.out.lv)
    obtain ⟨t0, t1, t2⟩ := HB.out.tk
    clear hB
    go_wp2_with fail
    refine HD.out.mono ?_
    clear HD t0 t1 t2 hv1
    intro e w2 hP
    have hT := BS.call (t := tSet n 0) (K := fun _ => .ret false) (U := bV) (Q := fun _ => True) HB.out ⟨fun s e => (by unfold lenP at e ⊢; exact e), fun _ => trivial⟩ (fun _ _ _ _ => trivial) hP
    clear hP
    obtain ⟨v, c3, s3, rfl, -, hB, hKp⟩ | ⟨rfl, hP⟩ := hT
    case inr => exact ⟨rfl, hP⟩
    have HE := Lib.hid (BS.end_ (U := bV) hB)
    clear hB hKp HB
    go_wp2
    go_ret
    exact HE.out
end
end Go.Proofs.Ytmhmgdpcibldlaa
