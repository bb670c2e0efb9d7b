/-
  What llx's Load comes to within work, touch by touch.
-/
import Derived.Test.YtcegianjpifnbaaGreatLs10
namespace Go.Proofs.YtcegianjpifnbaaGreat
open Go.ChangeShapes Go.WideShapes Go.ChangeAt Go.RowKit
set_option linter.unusedVariables false
set_option linter.unusedSimpArgs false
set_option maxRecDepth 20000

theorem isNone_walk (a W me : Nat) (w : World) : Calls Tryz.prog 94 #[tkV a W me] w fun e w' => e = .returned (.bool false) ∧ Below w.heap.size w w' := by
  obtain ⟨X, p, hX, hp, bb, tk, hsz⟩ := one_box w a W me
  have HB := Lib.hid bb
  obtain ⟨t0, t1, t2⟩ := tk
  clear bb hsz
  go_enter Tryz.func94, Tryz.ntmps94
  go_wp2_with fail
  (try rw [hX])
  go_wp2
  go_ret
  exact ⟨rfl, HB.out⟩
/-- Where Load is: its variables at p and p + 1. -/
structure LM (nds : List (Int × Nd)) (M : Nat) (d : Wd) (R : Nat → Prop) (w : World) (a me : Nat) (wk : Value) (p : Nat) (o : Out (Sn × Int)) (t : Tr (Sn × Int)) (wr : World) (c : Cur) (s : Sig) : Prop where
  bt : BT (Stt nds M) d R (fun b => R b ∨ b = p ∨ b = p + 1) w a me wk p o t wr c s
  e1 : Eig wr (p + 1) 0 0 false false (.slice none 0 0) (.slice none 0 0) (.slice none 0 0) (.slice none 0 0)
  hp : w.heap.size = p
section
variable {nds : List (Int × Nd)} {M : Nat} {d : Wd} {R R' X X' : Nat → Prop} {w w' w0 wr w1 : World} {a st ph k me p q : Nat} {wk : Value} {zs ws : List Int} {c : Cur} {s : Sig} {n r : Int} {nd : Nd} {t : Tr (Sn × Int)} {o : Out (Sn × Int)} {e : Ending}
theorem LM.below (h : LM nds M d R w a me wk p o t wr c s) (hb : Below wr.heap.size wr w') : LM nds M d R w a me wk p o t w' c s := ⟨h.bt.below hb, h.e1.below hb, h.hp⟩
theorem LM.next {t' : Tr (Sn × Int)} {c' : Cur} {s' : Sig} (h : LM nds M d R w a me wk p o t wr c s) (hB : BT (Stt nds M) d R (fun b => R b ∨ b = p ∨ b = p + 1) w a me wk p o t' w1 c' s') (hK : Kp (fun b => R b ∨ b = p ∨ b = p + 1) wr w1) : LM nds M d R w a me wk p o t' w1 c' s' :=
  ⟨hB, h.e1.at_ (hK.block _ (.inr (.inr rfl))), h.hp⟩
theorem LM.cells (h : LM nds M d R w a me wk p o t wr c s) : wr.cell? ⟨p, 0, none⟩ = some (ptr a) ∧ wr.cell? ⟨p, 1, none⟩ = some (ptr d.W) ∧ wr.cell? ⟨p, 2, none⟩ = some (.int .i64 (me : Int)) := ⟨h.bt.tk.c0, h.bt.tk.c1, h.bt.tk.c2⟩
/-- The eight stores into the result. -/
theorem BT.put8 {rf inf : Int} {x y : Bool} {pv kv zv wv : Value} (h : BT (Stt nds M) d R X w a me wk p o t wr c s) (hX : X (p + 1)) (nR : ¬ R (p + 1)) : BT (Stt nds M) d R X w a me wk p o t (Go.Proofs.YtcegianjpifnbaaGreat.put8 wr (p + 1) rf inf x y pv kv zv wv) c s :=
  (((((((h.setR (j := 0) hX (.int .i64 rf) nR (by omega)).setR (j := 1) hX (.int .i64 inf) nR (by omega)).setR (j := 2) hX (.bool x) nR (by omega)).setR (j := 3) hX (.bool y) nR (by omega)).setR (j := 4) hX pv nR (by omega)).setR (j := 5) hX kv nR (by omega)).setR (j := 6) hX zv nR (by omega)).setR (j := 7) hX wv nR (by omega)
theorem LM.finN {k : Int} (h : LM nds M d R w a me wk p o (.ret (Sn.nil, k)) wr c s) (hR : ∀ b, R b → b < w.heap.size) :
    Eig (Go.Proofs.YtcegianjpifnbaaGreat.put8 wr (p + 1) 0 0 false false (.slice none 0 0) (.slice none 0 0) (.slice none 0 0) (.slice none 0 0)) (p + 1) 0 0 false false (.slice none 0 0) (.slice none 0 0) (.slice none 0 0) (.slice none 0 0) ∧ PostM d R w a wk LdU o (.returned (.tuple #[snv 0 0 false false (.slice none 0 0) (.slice none 0 0) (.slice none 0 0) (.slice none 0 0), .int .u8 k])) (Go.Proofs.YtcegianjpifnbaaGreat.put8 wr (p + 1) 0 0 false false (.slice none 0 0) (.slice none 0 0) (.slice none 0 0) (.slice none 0 0)) :=
  ⟨h.e1.put, (h.bt.put8 (.inr (.inr rfl)) (fun f => by have := hR _ f; have := h.hp; omega)).postM (Y := fun _ => False) ⟨_, rfl, SnU.nil _ _⟩ (fun b e => e.elim) fun b e => e.elim⟩
/-- It is Seen: stored for the caller. -/
theorem LM.finS {x : Sn} {Y : Nat → Prop} {pv kv zv wv : Value} (hB : BT (Stt nds M) d R (fun b => (R b ∨ b = p ∨ b = p + 1) ∨ Y b) w a me wk p o (.ret (x, 0)) wr c s) (e1 : Eig wr (p + 1) 0 0 false false (.slice none 0 0) (.slice none 0 0) (.slice none 0 0) (.slice none 0 0)) (hp : w.heap.size = p) (hR : ∀ b, R b → b < w.heap.size)
    (hY : ∀ b, Y b → p + 1 < b) (h1 : IsSl pv) (h2 : IsSl kv) (h3 : IsSl zv) (h4 : Row rfT 0 wr wv x.ws) (h5 : ∀ b, wv.ownBlock = some b → Y b) :
    Eig (Go.Proofs.YtcegianjpifnbaaGreat.put8 wr (p + 1) x.rf x.inf x.nd.inn x.nd.tag pv kv zv wv) (p + 1) x.rf x.inf x.nd.inn x.nd.tag pv kv zv wv ∧ PostM d R w a wk LdU o (.returned (.tuple #[snv x.rf x.inf x.nd.inn x.nd.tag pv kv zv wv, .int .u8 0])) (Go.Proofs.YtcegianjpifnbaaGreat.put8 wr (p + 1) x.rf x.inf x.nd.inn x.nd.tag pv kv zv wv) := by
  have hO := only_put8 wr (p + 1) x.rf x.inf x.nd.inn x.nd.tag pv kv zv wv
  refine ⟨e1.put, (hB.put8 (.inl (.inr (.inr rfl))) (fun f => by have := hR _ f; omega)).postM (Y := Y) ⟨_, rfl, pv, kv, zv, wv, rfl, h1, h2, h3, own_at h4 fun b e => ?_, h5⟩ (fun b e => .inr e) fun b e => by have := hY b e; omega⟩
  have := hY b (h5 b e)
  exact hO.block b (hB.lv.lt b (.inr (h5 b e))) (by omega)
set_option maxHeartbeats 4000000 in
theorem load_touch (hx : (r, nd) ∈ nds) (hnd : nd.small) (hM : M ≤ 1000) (h : Lv d R w a wk c s) (hP : Stt nds M s) :
    Calls Tryz.prog 95 #[tkV a d.W me, .int .i64 r] w (PostM d R w a wk LdU (run (tLoad r nd) c s)) := by
  have HR := Lib.hid h.lt
  obtain ⟨W, p, hW, hp, bb, tk, e1, hsz⟩ := read_boxes w a d.W me
  obtain ⟨o, ho⟩ : ∃ o, run (tLoad r nd) c s = o := ⟨_, rfl⟩
  rw [ho]
  have HL0 : Hid (LM nds M d R w a me wk p o (tLoad r nd) W c s) := by
    refine ⟨?_, e1, hp⟩
    rw [← ho]
    exact BT.begin_ h bb (fun b e => e.imp id fun e => by omega) (fun b e => e.imp id .inl) tk hP
  have HX := Lib.hid hx
  have HND := Lib.hid hnd
  have HN := Lib.hid (isNone_walk a d.W me W)
  have HP := Lib.hid hp
  obtain ⟨t0, t1, t2⟩ := tk
  clear h bb hsz hP ho e1 hx hnd
  go_enter Tryz.func95, Tryz.ntmps95
  go_wp2_with fail
  (try rw [hp]); (try rw [hW])
  refine HN.out.mono ?_
  rintro e w1 ⟨rfl, b1⟩
  have HL1 := Lib.hid (HL0.out.below b1)
  clear HN HL0 b1 t0 t1 t2 hW
  have HD := Lib.hid (lmark_touch (me := me) (r := r) HL1.out.bt.lv)
  obtain ⟨t0, t1, t2⟩ := HL1.out.cells
  go_wp2_with fail
  refine HD.out.mono ?_
  clear HD t0 t1 t2
  intro e w2 hP
  rcases BT.call (K := fun m => (tDo (gInfo r)).bind fun n => (tState n).bind fun st => (tMark r).bind fun m2 => if st = 0 ∨ st = 2 ∧ m2 = false then (tRead r n nd).bind fun x => if x.2 = true then .ret (x.1, 0) else tRest r n m else tRest r n m) HL1.out.bt (run_kpL kl_mark) hP with ⟨m, c2, s2, rfl, -, hB, hKp⟩ | hx
  case inr => obtain ⟨rfl, hx⟩ := hx; exact ⟨rfl, .inr ⟨rfl, hx⟩⟩
  have HL2 := Lib.hid (HL1.out.next hB hKp)
  clear hB hKp hP HL1
  have HD := Lib.hid (linfo_touch (me := me) (r := r) HL2.out.bt.lv)
  obtain ⟨t0, t1, t2⟩ := HL2.out.cells
  go_wp2_with fail
  refine HD.out.mono ?_
  clear HD t0 t1 t2
  intro e w3 hP
  rcases BT.call (K := fun n => (tState n).bind fun st => (tMark r).bind fun m2 => if st = 0 ∨ st = 2 ∧ m2 = false then (tRead r n nd).bind fun x => if x.2 = true then .ret (x.1, 0) else tRest r n m else tRest r n m) HL2.out.bt (run_kpL kl_info) hP with ⟨n, c3, s3, rfl, -, hB, hKp⟩ | hx
  case inr => obtain ⟨rfl, hx⟩ := hx; exact ⟨rfl, .inr ⟨rfl, hx⟩⟩
  have HL3 := Lib.hid (HL2.out.next hB hKp)
  clear hB hKp hP HL2
  have HD := Lib.hid (lstate_touch (me := me) (n := n) HL3.out.bt.lv)
  obtain ⟨t0, t1, t2⟩ := HL3.out.cells
  go_wp2_with fail
  refine HD.out.mono ?_
  clear HD t0 t1 t2
  intro e w4 hP
  rcases BT.call (K := fun st => (tMark r).bind fun m2 => if st = 0 ∨ st = 2 ∧ m2 = false then (tRead r n nd).bind fun x => if x.2 = true then .ret (x.1, 0) else tRest r n m else tRest r n m) HL3.out.bt (run_kpL kl_state) hP with ⟨st, c4, s4, rfl, -, hB, hKp⟩ | hx
  case inr => obtain ⟨rfl, hx⟩ := hx; exact ⟨rfl, .inr ⟨rfl, hx⟩⟩
  have HL4 := Lib.hid (HL3.out.next hB hKp)
  clear hB hKp hP HL3
  have HD := Lib.hid (lmark_touch (me := me) (r := r) HL4.out.bt.lv)
  obtain ⟨t0, t1, t2⟩ := HL4.out.cells
  go_wp2_with fail
  refine HD.out.mono ?_
  clear HD t0 t1 t2
  intro e w5 hP
  rcases BT.call (K := fun m2 => if st = 0 ∨ st = 2 ∧ m2 = false then (tRead r n nd).bind fun x => if x.2 = true then .ret (x.1, 0) else tRest r n m else tRest r n m) HL4.out.bt (run_kpL kl_mark) hP with ⟨m2, c5, s5, rfl, -, hB, hKp⟩ | hx
  case inr => obtain ⟨rfl, hx⟩ := hx; exact ⟨rfl, .inr ⟨rfl, hx⟩⟩
  have HL5 := Lib.hid (HL4.out.next hB hKp)
  clear hB hKp hP HL4
  by_cases h0 : st = 0
  · subst h0
    have HL6 : Hid (LM nds M d R w a me wk p o ((tRead r n nd).bind fun x => if x.2 = true then .ret (x.1, 0) else tRest r n m) w5 c5 s5) := by
      have h := HL5.out
      simp only [true_or, if_true] at h
      exact h
    clear HL5
    have HD := Lib.hid (lread_touch (me := me) (n := n) HX.out HND.out HL6.out.bt.lv HL6.out.bt.inv)
    obtain ⟨t0, t1, t2⟩ := HL6.out.cells
    go_wp2_with fail
    refine HD.out.mono ?_
    clear HD t0 t1 t2
    intro e w9 hP
    rcases BT.callM (P := Stt nds M) (t := tRead r n nd) (o := o) (K := fun x : Sn × Bool => if x.2 = true then Tr.ret ((x.1, 0) : Sn × Int) else tRest r n m) HL6.out.bt (run_kpL (kl_read _ _ _)) hP with ⟨⟨x, same⟩, c9, s9, v, Y, rfl, -, ⟨u, hv, hu⟩, hB, hKp, hYn⟩ | hx
    case inr => obtain ⟨rfl, hx⟩ := hx; exact ⟨rfl, .inr ⟨rfl, hx⟩⟩
    have hv : v = .tuple #[u, .bool same] := hv
    have hu : SnU x Y w9 u := hu
    obtain ⟨pv, kv, zv, wv, rfl, ⟨P1, n1, q1, rfl⟩, ⟨P2, n2, q2, rfl⟩, ⟨P3, n3, q3, rfl⟩, y4, y5⟩ := hu
    obtain ⟨A4, n4, q4, rfl⟩ := y4.shape
    subst hv
    have he1 := HL6.out.e1.at_ (hKp.block _ (.inr (.inr rfl)))
    have hp5 : p + 1 < w5.heap.size := HL6.out.e1.lt
    clear HL6 hP
    cases same with
    | true =>
      have hB2 : BT (Stt nds M) d R (fun b => (R b ∨ b = p ∨ b = p + 1) ∨ Y b) w a me wk p o (.ret (x, 0)) w9 c9 s9 := hB
      obtain ⟨Z, q, hZ, hq, e2, bZ, sZ⟩ : ∃ (Z : World) (q : Nat), w9.alloc (.cells #[.int .i64 0, .int .i64 0, .bool false, .bool false, .slice none 0 0, .slice none 0 0, .slice none 0 0, .slice none 0 0] snT) = Z ∧ w9.heap.size = q ∧ Eig Z q 0 0 false false (.slice none 0 0) (.slice none 0 0) (.slice none 0 0) (.slice none 0 0) ∧ Below w9.heap.size w9 Z ∧ Z.heap.size = q + 1 := ⟨_, _, rfl, rfl, Eig.new _ rfl _ _ _ _ _ _ _ _, below_new _ _, by simp⟩
      have hO := only_put8 Z q x.rf x.inf x.nd.inn x.nd.tag (.slice P1 n1 q1) (.slice P2 n2 q2) (.slice P3 n3 q3) (.slice A4 n4 q4)
      have b8 : Below w9.heap.size Z (put8 Z q x.rf x.inf x.nd.inn x.nd.tag (.slice P1 n1 q1) (.slice P2 n2 q2) (.slice P3 n3 q3) (.slice A4 n4 q4)) := hO.below (fun b e => by omega) (by omega)
      have e3 : Eig (put8 Z q x.rf x.inf x.nd.inn x.nd.tag (.slice P1 n1 q1) (.slice P2 n2 q2) (.slice P3 n3 q3) (.slice A4 n4 q4)) q x.rf x.inf x.nd.inn x.nd.tag (.slice P1 n1 q1) (.slice P2 n2 q2) (.slice P3 n3 q3) (.slice A4 n4 q4) := e2.put
      obtain ⟨V, hV⟩ : ∃ V, put8 Z q x.rf x.inf x.nd.inn x.nd.tag (.slice P1 n1 q1) (.slice P2 n2 q2) (.slice P3 n3 q3) (.slice A4 n4 q4) = V := ⟨_, rfl⟩
      rw [hV] at b8 e3
      have bV : Below w9.heap.size w9 V := bZ.trans b8
      have hYl : ∀ b, Y b → b < w9.heap.size := fun b e => hB.lv.lt b (.inr e)
      have hV1 := he1.below bV
      have HE := Lib.hid (LM.finS (hB2.below bV) hV1 HP.out HR.out (fun b e => by have := hYn b e; omega) ⟨P1, n1, q1, rfl⟩ ⟨P2, n2, q2, rfl⟩ ⟨P3, n3, q3, rfl⟩ (own_at y4 fun b e => bV.block b (hYl b (y5 b e))) y5)
      obtain ⟨x0, x1, x2, x3, x4, x5, x6, x7⟩ := e2.cells
      obtain ⟨f0, f1, f2, f3, f4, f5, f6, f7⟩ := e2.frees
      obtain ⟨v0, v1, v2, v3, v4, v5, v6, v7⟩ := hV1.cells
      obtain ⟨g0, g1, g2, g3, g4, g5, g6, g7⟩ := hV1.frees
      obtain ⟨u0, u1, u2, u3, u4, u5, u6, u7⟩ := e3.cells
      clear hB hB2 hO b8 e2 bZ sZ bV hYl hV1 e3 y4 y5 he1 hKp hYn
      go_wp2_with fail
      (try rw [hZ]); (try rw [hq]); (try rw [hV])
      go_wp2
      ((try simp only [Exit.inBlock, Exit.then]); refine bodyPost_ret (results_eig2 rfl rfl rfl HE.out.1) rfl ?_)
      exact HE.out.2
    | false =>
      have HB0 : Hid (LM nds M d R w a me wk p o (tRest r n m) w9 c9 s9) := ⟨BT.mono hB (fun b e => .inl e) (fun b e => e.imp id .inl), he1, HP.out⟩
      obtain ⟨Z, q, hZ, hq, e2, bZ, sZ⟩ : ∃ (Z : World) (q : Nat), w9.alloc (.cells #[.int .i64 0, .int .i64 0, .bool false, .bool false, .slice none 0 0, .slice none 0 0, .slice none 0 0, .slice none 0 0] snT) = Z ∧ w9.heap.size = q ∧ Eig Z q 0 0 false false (.slice none 0 0) (.slice none 0 0) (.slice none 0 0) (.slice none 0 0) ∧ Below w9.heap.size w9 Z ∧ Z.heap.size = q + 1 := ⟨_, _, rfl, rfl, Eig.new _ rfl _ _ _ _ _ _ _ _, below_new _ _, by simp⟩
      have hO := only_put8 Z q x.rf x.inf x.nd.inn x.nd.tag (.slice P1 n1 q1) (.slice P2 n2 q2) (.slice P3 n3 q3) (.slice A4 n4 q4)
      have b8 : Below w9.heap.size Z (put8 Z q x.rf x.inf x.nd.inn x.nd.tag (.slice P1 n1 q1) (.slice P2 n2 q2) (.slice P3 n3 q3) (.slice A4 n4 q4)) := hO.below (fun b e => by omega) (by omega)
      obtain ⟨V, hV⟩ : ∃ V, put8 Z q x.rf x.inf x.nd.inn x.nd.tag (.slice P1 n1 q1) (.slice P2 n2 q2) (.slice P3 n3 q3) (.slice A4 n4 q4) = V := ⟨_, rfl⟩
      rw [hV] at b8
      have HL7 := Lib.hid (HB0.out.below (bZ.trans b8))
      obtain ⟨x0, x1, x2, x3, x4, x5, x6, x7⟩ := e2.cells
      obtain ⟨f0, f1, f2, f3, f4, f5, f6, f7⟩ := e2.frees
      obtain ⟨t0, t1, t2⟩ := HL7.out.cells
      clear hB HB0 hO b8 e2 bZ sZ y4 y5 he1 hKp hYn
      go_wp2_with fail
      (try rw [hZ]); (try rw [hq]); (try rw [hV])
      clear hZ hq hV x0 x1 x2 x3 x4 x5 x6 x7 f0 f1 f2 f3 f4 f5 f6 f7 t0 t1 t2
      have HD := Lib.hid (lbring_touch (me := me) (n := n) HL7.out.bt.lv HL7.out.bt.inv hM)
      obtain ⟨t0, t1, t2⟩ := HL7.out.cells
      go_wp2_with fail
      refine HD.out.mono ?_
      clear HD t0 t1 t2
      intro e w6 hP
      rcases BT.call (K := fun b => if (b && m) = true then .ret (Sn.nil, 2) else (tDo (gInfo r)).bind fun n2 => (tBring n2).bind fun _ => .ret (Sn.nil, 1)) HL7.out.bt (run_kpL kl_bring) hP with ⟨b, c6, s6, rfl, -, hB, hKp⟩ | hx
      case inr => obtain ⟨rfl, hx⟩ := hx; exact ⟨rfl, .inr ⟨rfl, hx⟩⟩
      have HT1 := Lib.hid (HL7.out.next hB hKp)
      clear hB hKp hP HL7
      cases b with
      | false =>
        have HT2 : Hid (LM nds M d R w a me wk p o ((tDo (gInfo r)).bind fun n2 => (tBring n2).bind fun _ => .ret (Sn.nil, 1)) w6 c6 s6) := HT1.out
        clear HT1
        obtain ⟨t0, t1, t2⟩ := HT2.out.cells
        go_wp2_with fail
        clear t0 t1 t2
        refine region_T (fun _ => false) (fun w' => w'.cell? ⟨p, 0, none⟩ = some (ptr a) ∧ w'.cell? ⟨p, 1, none⟩ = some (ptr d.W) ∧ w'.cell? ⟨p, 2, none⟩ = some (.int .i64 (me : Int))) (by kernel_rfl) ?_
        obtain ⟨X0, hX0, hbX0⟩ : ∃ X0 : World, w6.drew = X0 ∧ Below w6.heap.size w6 X0 := ⟨_, rfl, (Below.refl _ w6).drew⟩
        have HT3 := Lib.hid (HT2.out.below hbX0)
        rw [hX0]
        clear hX0 HT2 hbX0
        have hC := HT3.out.cells
        refine takeX 0 55 (v := ?_) rfl rfl (by kernel_rfl) (by kernel_rfl) (by kernel_rfl) (by kernel_rfl) (by kernel_rfl) (fun _ _ _ _ h => h) hC (by rfl) ?_ ?_
        rotate_left
        · intro w hSw; (try dsimp only at hSw); go_simp; try (with_reducible rfl)
        simp only [List.setIfInBounds_toArray, List.set_cons_zero, List.set_cons_succ]
        refine takeX 1 56 (v := ?_) rfl rfl (by kernel_rfl) (by kernel_rfl) (by kernel_rfl) (by kernel_rfl) (by kernel_rfl) (fun _ _ _ _ h => h) hC (by rfl) ?_ ?_
        rotate_left
        · intro w hSw; (try dsimp only at hSw); go_simp; try (with_reducible rfl)
        simp only [List.setIfInBounds_toArray, List.set_cons_zero, List.set_cons_succ]
        refine takeX 2 57 (v := ?_) rfl rfl (by kernel_rfl) (by kernel_rfl) (by kernel_rfl) (by kernel_rfl) (by kernel_rfl) (fun _ _ _ _ h => h) hC (by rfl) ?_ ?_
        rotate_left
        · intro w hSw; (try dsimp only at hSw); go_simp; try (with_reducible rfl)
        simp only [List.setIfInBounds_toArray, List.set_cons_zero, List.set_cons_succ]
        refine oneT (i := 3) (by kernel_rfl) rfl (by rfl) (fun K hK => ?_)
        go_simp
        refine (linfo_touch (me := me) (r := r) HT3.out.bt.lv).mono ?_
        intro e w7 hP
        rcases BT.call (K := fun n2 => (tBring n2).bind fun _ => .ret (Sn.nil, 1)) HT3.out.bt (run_kpL kl_info) hP with ⟨n2, c7, s7, rfl, -, hB, hKp⟩ | hx
        case inr => obtain ⟨rfl, hx⟩ := hx; exact ⟨rfl, .inr ⟨rfl, hx⟩⟩
        have HT4 := Lib.hid (HT3.out.next hB hKp)
        refine hK.out _ _ (fun _ => HT4.out.cells) ?_
        clear hK K hC hB hKp hP HT3
        have hC := HT4.out.cells
        try simp only [Act.put, List.setIfInBounds_toArray, List.set_cons_zero, List.set_cons_succ]
        refine oneT (i := 4) (by kernel_rfl) rfl (by rfl) (fun K hK => ?_)
        go_simp
        refine (lbring_touch (me := me) (n := n2) HT4.out.bt.lv HT4.out.bt.inv hM).mono ?_
        intro e w8 hP
        rcases BT.call (K := fun _ => .ret ((Sn.nil, 1) : Sn × Int)) HT4.out.bt (run_kpL kl_bring) hP with ⟨b2, c8, s8, rfl, -, hB, hKp⟩ | hx
        case inr => obtain ⟨rfl, hx⟩ := hx; exact ⟨rfl, .inr ⟨rfl, hx⟩⟩
        have HT5 := Lib.hid (HT4.out.next hB hKp)
        refine hK.out _ _ (fun _ => HT5.out.cells) ?_
        clear hK K hC hB hKp hP HT4
        try simp only [Act.put, List.setIfInBounds_toArray, List.set_cons_zero, List.set_cons_succ]
        refine doneT (by kernel_rfl) ?_
        obtain ⟨x0, x1, x2, x3, x4, x5, x6, x7⟩ := HT5.out.e1.cells
        obtain ⟨f0, f1, f2, f3, f4, f5, f6, f7⟩ := HT5.out.e1.frees
        have HE := Lib.hid (HT5.out.finN HR.out)
        clear HT5
        go_wp2
        ((try simp only [Exit.inBlock, Exit.then]); refine bodyPost_ret (results_eig2 rfl rfl rfl HE.out.1) rfl ?_)
        exact HE.out.2
      | true =>
        cases m with
        | false =>
          have HT2 : Hid (LM nds M d R w a me wk p o ((tDo (gInfo r)).bind fun n2 => (tBring n2).bind fun _ => .ret (Sn.nil, 1)) w6 c6 s6) := HT1.out
          clear HT1
          obtain ⟨t0, t1, t2⟩ := HT2.out.cells
          go_wp2_with fail
          clear t0 t1 t2
          refine region_T (fun _ => false) (fun w' => w'.cell? ⟨p, 0, none⟩ = some (ptr a) ∧ w'.cell? ⟨p, 1, none⟩ = some (ptr d.W) ∧ w'.cell? ⟨p, 2, none⟩ = some (.int .i64 (me : Int))) (by kernel_rfl) ?_
          obtain ⟨X0, hX0, hbX0⟩ : ∃ X0 : World, w6.drew = X0 ∧ Below w6.heap.size w6 X0 := ⟨_, rfl, (Below.refl _ w6).drew⟩
          have HT3 := Lib.hid (HT2.out.below hbX0)
          rw [hX0]
          clear hX0 HT2 hbX0
          have hC := HT3.out.cells
          refine takeX 0 55 (v := ?_) rfl rfl (by kernel_rfl) (by kernel_rfl) (by kernel_rfl) (by kernel_rfl) (by kernel_rfl) (fun _ _ _ _ h => h) hC (by rfl) ?_ ?_
          rotate_left
          · intro w hSw; (try dsimp only at hSw); go_simp; try (with_reducible rfl)
          simp only [List.setIfInBounds_toArray, List.set_cons_zero, List.set_cons_succ]
          refine takeX 1 56 (v := ?_) rfl rfl (by kernel_rfl) (by kernel_rfl) (by kernel_rfl) (by kernel_rfl) (by kernel_rfl) (fun _ _ _ _ h => h) hC (by rfl) ?_ ?_
          rotate_left
          · intro w hSw; (try dsimp only at hSw); go_simp; try (with_reducible rfl)
          simp only [List.setIfInBounds_toArray, List.set_cons_zero, List.set_cons_succ]
          refine takeX 2 57 (v := ?_) rfl rfl (by kernel_rfl) (by kernel_rfl) (by kernel_rfl) (by kernel_rfl) (by kernel_rfl) (fun _ _ _ _ h => h) hC (by rfl) ?_ ?_
          rotate_left
          · intro w hSw; (try dsimp only at hSw); go_simp; try (with_reducible rfl)
          simp only [List.setIfInBounds_toArray, List.set_cons_zero, List.set_cons_succ]
          refine oneT (i := 3) (by kernel_rfl) rfl (by rfl) (fun K hK => ?_)
          go_simp
          refine (linfo_touch (me := me) (r := r) HT3.out.bt.lv).mono ?_
          intro e w7 hP
          rcases BT.call (K := fun n2 => (tBring n2).bind fun _ => .ret (Sn.nil, 1)) HT3.out.bt (run_kpL kl_info) hP with ⟨n2, c7, s7, rfl, -, hB, hKp⟩ | hx
          case inr => obtain ⟨rfl, hx⟩ := hx; exact ⟨rfl, .inr ⟨rfl, hx⟩⟩
          have HT4 := Lib.hid (HT3.out.next hB hKp)
          refine hK.out _ _ (fun _ => HT4.out.cells) ?_
          clear hK K hC hB hKp hP HT3
          have hC := HT4.out.cells
          try simp only [Act.put, List.setIfInBounds_toArray, List.set_cons_zero, List.set_cons_succ]
          refine oneT (i := 4) (by kernel_rfl) rfl (by rfl) (fun K hK => ?_)
          go_simp
          refine (lbring_touch (me := me) (n := n2) HT4.out.bt.lv HT4.out.bt.inv hM).mono ?_
          intro e w8 hP
          rcases BT.call (K := fun _ => .ret ((Sn.nil, 1) : Sn × Int)) HT4.out.bt (run_kpL kl_bring) hP with ⟨b2, c8, s8, rfl, -, hB, hKp⟩ | hx
          case inr => obtain ⟨rfl, hx⟩ := hx; exact ⟨rfl, .inr ⟨rfl, hx⟩⟩
          have HT5 := Lib.hid (HT4.out.next hB hKp)
          refine hK.out _ _ (fun _ => HT5.out.cells) ?_
          clear hK K hC hB hKp hP HT4
          try simp only [Act.put, List.setIfInBounds_toArray, List.set_cons_zero, List.set_cons_succ]
          refine doneT (by kernel_rfl) ?_
          obtain ⟨x0, x1, x2, x3, x4, x5, x6, x7⟩ := HT5.out.e1.cells
          obtain ⟨f0, f1, f2, f3, f4, f5, f6, f7⟩ := HT5.out.e1.frees
          have HE := Lib.hid (HT5.out.finN HR.out)
          clear HT5
          go_wp2
          ((try simp only [Exit.inBlock, Exit.then]); refine bodyPost_ret (results_eig2 rfl rfl rfl HE.out.1) rfl ?_)
          exact HE.out.2
        | true =>
          have HT2 : Hid (LM nds M d R w a me wk p o (.ret (Sn.nil, 2)) w6 c6 s6) := HT1.out
          clear HT1
          obtain ⟨x0, x1, x2, x3, x4, x5, x6, x7⟩ := HT2.out.e1.cells
          obtain ⟨f0, f1, f2, f3, f4, f5, f6, f7⟩ := HT2.out.e1.frees
          have HE := Lib.hid (HT2.out.finN HR.out)
          clear HT2
          go_wp2
          ((try simp only [Exit.inBlock, Exit.then]); refine bodyPost_ret (results_eig2 rfl rfl rfl HE.out.1) rfl ?_)
          exact HE.out.2
  · by_cases h2 : st = 2
    · subst h2
      cases m2 with
      | false =>
        have HL6 : Hid (LM nds M d R w a me wk p o ((tRead r n nd).bind fun x => if x.2 = true then .ret (x.1, 0) else tRest r n m) w5 c5 s5) := by
          have h := HL5.out
          simp only [and_self, or_true, if_true] at h
          exact h
        clear HL5
        have HD := Lib.hid (lread_touch (me := me) (n := n) HX.out HND.out HL6.out.bt.lv HL6.out.bt.inv)
        obtain ⟨t0, t1, t2⟩ := HL6.out.cells
        go_wp2_with fail
        refine HD.out.mono ?_
        clear HD t0 t1 t2
        intro e w9 hP
        rcases BT.callM (P := Stt nds M) (t := tRead r n nd) (o := o) (K := fun x : Sn × Bool => if x.2 = true then Tr.ret ((x.1, 0) : Sn × Int) else tRest r n m) HL6.out.bt (run_kpL (kl_read _ _ _)) hP with ⟨⟨x, same⟩, c9, s9, v, Y, rfl, -, ⟨u, hv, hu⟩, hB, hKp, hYn⟩ | hx
        case inr => obtain ⟨rfl, hx⟩ := hx; exact ⟨rfl, .inr ⟨rfl, hx⟩⟩
        have hv : v = .tuple #[u, .bool same] := hv
        have hu : SnU x Y w9 u := hu
        obtain ⟨pv, kv, zv, wv, rfl, ⟨P1, n1, q1, rfl⟩, ⟨P2, n2, q2, rfl⟩, ⟨P3, n3, q3, rfl⟩, y4, y5⟩ := hu
        obtain ⟨A4, n4, q4, rfl⟩ := y4.shape
        subst hv
        have he1 := HL6.out.e1.at_ (hKp.block _ (.inr (.inr rfl)))
        have hp5 : p + 1 < w5.heap.size := HL6.out.e1.lt
        clear HL6 hP
        cases same with
        | true =>
          have hB2 : BT (Stt nds M) d R (fun b => (R b ∨ b = p ∨ b = p + 1) ∨ Y b) w a me wk p o (.ret (x, 0)) w9 c9 s9 := hB
          obtain ⟨Z, q, hZ, hq, e2, bZ, sZ⟩ : ∃ (Z : World) (q : Nat), w9.alloc (.cells #[.int .i64 0, .int .i64 0, .bool false, .bool false, .slice none 0 0, .slice none 0 0, .slice none 0 0, .slice none 0 0] snT) = Z ∧ w9.heap.size = q ∧ Eig Z q 0 0 false false (.slice none 0 0) (.slice none 0 0) (.slice none 0 0) (.slice none 0 0) ∧ Below w9.heap.size w9 Z ∧ Z.heap.size = q + 1 := ⟨_, _, rfl, rfl, Eig.new _ rfl _ _ _ _ _ _ _ _, below_new _ _, by simp⟩
          have hO := only_put8 Z q x.rf x.inf x.nd.inn x.nd.tag (.slice P1 n1 q1) (.slice P2 n2 q2) (.slice P3 n3 q3) (.slice A4 n4 q4)
          have b8 : Below w9.heap.size Z (put8 Z q x.rf x.inf x.nd.inn x.nd.tag (.slice P1 n1 q1) (.slice P2 n2 q2) (.slice P3 n3 q3) (.slice A4 n4 q4)) := hO.below (fun b e => by omega) (by omega)
          have e3 : Eig (put8 Z q x.rf x.inf x.nd.inn x.nd.tag (.slice P1 n1 q1) (.slice P2 n2 q2) (.slice P3 n3 q3) (.slice A4 n4 q4)) q x.rf x.inf x.nd.inn x.nd.tag (.slice P1 n1 q1) (.slice P2 n2 q2) (.slice P3 n3 q3) (.slice A4 n4 q4) := e2.put
          obtain ⟨V, hV⟩ : ∃ V, put8 Z q x.rf x.inf x.nd.inn x.nd.tag (.slice P1 n1 q1) (.slice P2 n2 q2) (.slice P3 n3 q3) (.slice A4 n4 q4) = V := ⟨_, rfl⟩
          rw [hV] at b8 e3
          have bV : Below w9.heap.size w9 V := bZ.trans b8
          have hYl : ∀ b, Y b → b < w9.heap.size := fun b e => hB.lv.lt b (.inr e)
          have hV1 := he1.below bV
          have HE := Lib.hid (LM.finS (hB2.below bV) hV1 HP.out HR.out (fun b e => by have := hYn b e; omega) ⟨P1, n1, q1, rfl⟩ ⟨P2, n2, q2, rfl⟩ ⟨P3, n3, q3, rfl⟩ (own_at y4 fun b e => bV.block b (hYl b (y5 b e))) y5)
          obtain ⟨x0, x1, x2, x3, x4, x5, x6, x7⟩ := e2.cells
          obtain ⟨f0, f1, f2, f3, f4, f5, f6, f7⟩ := e2.frees
          obtain ⟨v0, v1, v2, v3, v4, v5, v6, v7⟩ := hV1.cells
          obtain ⟨g0, g1, g2, g3, g4, g5, g6, g7⟩ := hV1.frees
          obtain ⟨u0, u1, u2, u3, u4, u5, u6, u7⟩ := e3.cells
          clear hB hB2 hO b8 e2 bZ sZ bV hYl hV1 e3 y4 y5 he1 hKp hYn
          go_wp2_with fail
          (try rw [hZ]); (try rw [hq]); (try rw [hV])
          go_wp2
          ((try simp only [Exit.inBlock, Exit.then]); refine bodyPost_ret (results_eig2 rfl rfl rfl HE.out.1) rfl ?_)
          exact HE.out.2
        | false =>
          have HB0 : Hid (LM nds M d R w a me wk p o (tRest r n m) w9 c9 s9) := ⟨BT.mono hB (fun b e => .inl e) (fun b e => e.imp id .inl), he1, HP.out⟩
          obtain ⟨Z, q, hZ, hq, e2, bZ, sZ⟩ : ∃ (Z : World) (q : Nat), w9.alloc (.cells #[.int .i64 0, .int .i64 0, .bool false, .bool false, .slice none 0 0, .slice none 0 0, .slice none 0 0, .slice none 0 0] snT) = Z ∧ w9.heap.size = q ∧ Eig Z q 0 0 false false (.slice none 0 0) (.slice none 0 0) (.slice none 0 0) (.slice none 0 0) ∧ Below w9.heap.size w9 Z ∧ Z.heap.size = q + 1 := ⟨_, _, rfl, rfl, Eig.new _ rfl _ _ _ _ _ _ _ _, below_new _ _, by simp⟩
          have hO := only_put8 Z q x.rf x.inf x.nd.inn x.nd.tag (.slice P1 n1 q1) (.slice P2 n2 q2) (.slice P3 n3 q3) (.slice A4 n4 q4)
          have b8 : Below w9.heap.size Z (put8 Z q x.rf x.inf x.nd.inn x.nd.tag (.slice P1 n1 q1) (.slice P2 n2 q2) (.slice P3 n3 q3) (.slice A4 n4 q4)) := hO.below (fun b e => by omega) (by omega)
          obtain ⟨V, hV⟩ : ∃ V, put8 Z q x.rf x.inf x.nd.inn x.nd.tag (.slice P1 n1 q1) (.slice P2 n2 q2) (.slice P3 n3 q3) (.slice A4 n4 q4) = V := ⟨_, rfl⟩
          rw [hV] at b8
          have HL7 := Lib.hid (HB0.out.below (bZ.trans b8))
          obtain ⟨x0, x1, x2, x3, x4, x5, x6, x7⟩ := e2.cells
          obtain ⟨f0, f1, f2, f3, f4, f5, f6, f7⟩ := e2.frees
          obtain ⟨t0, t1, t2⟩ := HL7.out.cells
          clear hB HB0 hO b8 e2 bZ sZ y4 y5 he1 hKp hYn
          go_wp2_with fail
          (try rw [hZ]); (try rw [hq]); (try rw [hV])
          clear hZ hq hV x0 x1 x2 x3 x4 x5 x6 x7 f0 f1 f2 f3 f4 f5 f6 f7 t0 t1 t2
          have HD := Lib.hid (lbring_touch (me := me) (n := n) HL7.out.bt.lv HL7.out.bt.inv hM)
          obtain ⟨t0, t1, t2⟩ := HL7.out.cells
          go_wp2_with fail
          refine HD.out.mono ?_
          clear HD t0 t1 t2
          intro e w6 hP
          rcases BT.call (K := fun b => if (b && m) = true then .ret (Sn.nil, 2) else (tDo (gInfo r)).bind fun n2 => (tBring n2).bind fun _ => .ret (Sn.nil, 1)) HL7.out.bt (run_kpL kl_bring) hP with ⟨b, c6, s6, rfl, -, hB, hKp⟩ | hx
          case inr => obtain ⟨rfl, hx⟩ := hx; exact ⟨rfl, .inr ⟨rfl, hx⟩⟩
          have HT1 := Lib.hid (HL7.out.next hB hKp)
          clear hB hKp hP HL7
          cases b with
          | false =>
            have HT2 : Hid (LM nds M d R w a me wk p o ((tDo (gInfo r)).bind fun n2 => (tBring n2).bind fun _ => .ret (Sn.nil, 1)) w6 c6 s6) := HT1.out
            clear HT1
            obtain ⟨t0, t1, t2⟩ := HT2.out.cells
            go_wp2_with fail
            clear t0 t1 t2
            refine region_T (fun _ => false) (fun w' => w'.cell? ⟨p, 0, none⟩ = some (ptr a) ∧ w'.cell? ⟨p, 1, none⟩ = some (ptr d.W) ∧ w'.cell? ⟨p, 2, none⟩ = some (.int .i64 (me : Int))) (by kernel_rfl) ?_
            obtain ⟨X0, hX0, hbX0⟩ : ∃ X0 : World, w6.drew = X0 ∧ Below w6.heap.size w6 X0 := ⟨_, rfl, (Below.refl _ w6).drew⟩
            have HT3 := Lib.hid (HT2.out.below hbX0)
            rw [hX0]
            clear hX0 HT2 hbX0
            have hC := HT3.out.cells
            refine takeX 0 55 (v := ?_) rfl rfl (by kernel_rfl) (by kernel_rfl) (by kernel_rfl) (by kernel_rfl) (by kernel_rfl) (fun _ _ _ _ h => h) hC (by rfl) ?_ ?_
            rotate_left
            · intro w hSw; (try dsimp only at hSw); go_simp; try (with_reducible rfl)
            simp only [List.setIfInBounds_toArray, List.set_cons_zero, List.set_cons_succ]
            refine takeX 1 56 (v := ?_) rfl rfl (by kernel_rfl) (by kernel_rfl) (by kernel_rfl) (by kernel_rfl) (by kernel_rfl) (fun _ _ _ _ h => h) hC (by rfl) ?_ ?_
            rotate_left
            · intro w hSw; (try dsimp only at hSw); go_simp; try (with_reducible rfl)
            simp only [List.setIfInBounds_toArray, List.set_cons_zero, List.set_cons_succ]
            refine takeX 2 57 (v := ?_) rfl rfl (by kernel_rfl) (by kernel_rfl) (by kernel_rfl) (by kernel_rfl) (by kernel_rfl) (fun _ _ _ _ h => h) hC (by rfl) ?_ ?_
            rotate_left
            · intro w hSw; (try dsimp only at hSw); go_simp; try (with_reducible rfl)
            simp only [List.setIfInBounds_toArray, List.set_cons_zero, List.set_cons_succ]
            refine oneT (i := 3) (by kernel_rfl) rfl (by rfl) (fun K hK => ?_)
            go_simp
            refine (linfo_touch (me := me) (r := r) HT3.out.bt.lv).mono ?_
            intro e w7 hP
            rcases BT.call (K := fun n2 => (tBring n2).bind fun _ => .ret (Sn.nil, 1)) HT3.out.bt (run_kpL kl_info) hP with ⟨n2, c7, s7, rfl, -, hB, hKp⟩ | hx
            case inr => obtain ⟨rfl, hx⟩ := hx; exact ⟨rfl, .inr ⟨rfl, hx⟩⟩
            have HT4 := Lib.hid (HT3.out.next hB hKp)
            refine hK.out _ _ (fun _ => HT4.out.cells) ?_
            clear hK K hC hB hKp hP HT3
            have hC := HT4.out.cells
            try simp only [Act.put, List.setIfInBounds_toArray, List.set_cons_zero, List.set_cons_succ]
            refine oneT (i := 4) (by kernel_rfl) rfl (by rfl) (fun K hK => ?_)
            go_simp
            refine (lbring_touch (me := me) (n := n2) HT4.out.bt.lv HT4.out.bt.inv hM).mono ?_
            intro e w8 hP
            rcases BT.call (K := fun _ => .ret ((Sn.nil, 1) : Sn × Int)) HT4.out.bt (run_kpL kl_bring) hP with ⟨b2, c8, s8, rfl, -, hB, hKp⟩ | hx
            case inr => obtain ⟨rfl, hx⟩ := hx; exact ⟨rfl, .inr ⟨rfl, hx⟩⟩
            have HT5 := Lib.hid (HT4.out.next hB hKp)
            refine hK.out _ _ (fun _ => HT5.out.cells) ?_
            clear hK K hC hB hKp hP HT4
            try simp only [Act.put, List.setIfInBounds_toArray, List.set_cons_zero, List.set_cons_succ]
            refine doneT (by kernel_rfl) ?_
            obtain ⟨x0, x1, x2, x3, x4, x5, x6, x7⟩ := HT5.out.e1.cells
            obtain ⟨f0, f1, f2, f3, f4, f5, f6, f7⟩ := HT5.out.e1.frees
            have HE := Lib.hid (HT5.out.finN HR.out)
            clear HT5
            go_wp2
            ((try simp only [Exit.inBlock, Exit.then]); refine bodyPost_ret (results_eig2 rfl rfl rfl HE.out.1) rfl ?_)
            exact HE.out.2
          | true =>
            cases m with
            | false =>
              have HT2 : Hid (LM nds M d R w a me wk p o ((tDo (gInfo r)).bind fun n2 => (tBring n2).bind fun _ => .ret (Sn.nil, 1)) w6 c6 s6) := HT1.out
              clear HT1
              obtain ⟨t0, t1, t2⟩ := HT2.out.cells
              go_wp2_with fail
              clear t0 t1 t2
              refine region_T (fun _ => false) (fun w' => w'.cell? ⟨p, 0, none⟩ = some (ptr a) ∧ w'.cell? ⟨p, 1, none⟩ = some (ptr d.W) ∧ w'.cell? ⟨p, 2, none⟩ = some (.int .i64 (me : Int))) (by kernel_rfl) ?_
              obtain ⟨X0, hX0, hbX0⟩ : ∃ X0 : World, w6.drew = X0 ∧ Below w6.heap.size w6 X0 := ⟨_, rfl, (Below.refl _ w6).drew⟩
              have HT3 := Lib.hid (HT2.out.below hbX0)
              rw [hX0]
              clear hX0 HT2 hbX0
              have hC := HT3.out.cells
              refine takeX 0 55 (v := ?_) rfl rfl (by kernel_rfl) (by kernel_rfl) (by kernel_rfl) (by kernel_rfl) (by kernel_rfl) (fun _ _ _ _ h => h) hC (by rfl) ?_ ?_
              rotate_left
              · intro w hSw; (try dsimp only at hSw); go_simp; try (with_reducible rfl)
              simp only [List.setIfInBounds_toArray, List.set_cons_zero, List.set_cons_succ]
              refine takeX 1 56 (v := ?_) rfl rfl (by kernel_rfl) (by kernel_rfl) (by kernel_rfl) (by kernel_rfl) (by kernel_rfl) (fun _ _ _ _ h => h) hC (by rfl) ?_ ?_
              rotate_left
              · intro w hSw; (try dsimp only at hSw); go_simp; try (with_reducible rfl)
              simp only [List.setIfInBounds_toArray, List.set_cons_zero, List.set_cons_succ]
              refine takeX 2 57 (v := ?_) rfl rfl (by kernel_rfl) (by kernel_rfl) (by kernel_rfl) (by kernel_rfl) (by kernel_rfl) (fun _ _ _ _ h => h) hC (by rfl) ?_ ?_
              rotate_left
              · intro w hSw; (try dsimp only at hSw); go_simp; try (with_reducible rfl)
              simp only [List.setIfInBounds_toArray, List.set_cons_zero, List.set_cons_succ]
              refine oneT (i := 3) (by kernel_rfl) rfl (by rfl) (fun K hK => ?_)
              go_simp
              refine (linfo_touch (me := me) (r := r) HT3.out.bt.lv).mono ?_
              intro e w7 hP
              rcases BT.call (K := fun n2 => (tBring n2).bind fun _ => .ret (Sn.nil, 1)) HT3.out.bt (run_kpL kl_info) hP with ⟨n2, c7, s7, rfl, -, hB, hKp⟩ | hx
              case inr => obtain ⟨rfl, hx⟩ := hx; exact ⟨rfl, .inr ⟨rfl, hx⟩⟩
              have HT4 := Lib.hid (HT3.out.next hB hKp)
              refine hK.out _ _ (fun _ => HT4.out.cells) ?_
              clear hK K hC hB hKp hP HT3
              have hC := HT4.out.cells
              try simp only [Act.put, List.setIfInBounds_toArray, List.set_cons_zero, List.set_cons_succ]
              refine oneT (i := 4) (by kernel_rfl) rfl (by rfl) (fun K hK => ?_)
              go_simp
              refine (lbring_touch (me := me) (n := n2) HT4.out.bt.lv HT4.out.bt.inv hM).mono ?_
              intro e w8 hP
              rcases BT.call (K := fun _ => .ret ((Sn.nil, 1) : Sn × Int)) HT4.out.bt (run_kpL kl_bring) hP with ⟨b2, c8, s8, rfl, -, hB, hKp⟩ | hx
              case inr => obtain ⟨rfl, hx⟩ := hx; exact ⟨rfl, .inr ⟨rfl, hx⟩⟩
              have HT5 := Lib.hid (HT4.out.next hB hKp)
              refine hK.out _ _ (fun _ => HT5.out.cells) ?_
              clear hK K hC hB hKp hP HT4
              try simp only [Act.put, List.setIfInBounds_toArray, List.set_cons_zero, List.set_cons_succ]
              refine doneT (by kernel_rfl) ?_
              obtain ⟨x0, x1, x2, x3, x4, x5, x6, x7⟩ := HT5.out.e1.cells
              obtain ⟨f0, f1, f2, f3, f4, f5, f6, f7⟩ := HT5.out.e1.frees
              have HE := Lib.hid (HT5.out.finN HR.out)
              clear HT5
              go_wp2
              ((try simp only [Exit.inBlock, Exit.then]); refine bodyPost_ret (results_eig2 rfl rfl rfl HE.out.1) rfl ?_)
              exact HE.out.2
            | true =>
              have HT2 : Hid (LM nds M d R w a me wk p o (.ret (Sn.nil, 2)) w6 c6 s6) := HT1.out
              clear HT1
              obtain ⟨x0, x1, x2, x3, x4, x5, x6, x7⟩ := HT2.out.e1.cells
              obtain ⟨f0, f1, f2, f3, f4, f5, f6, f7⟩ := HT2.out.e1.frees
              have HE := Lib.hid (HT2.out.finN HR.out)
              clear HT2
              go_wp2
              ((try simp only [Exit.inBlock, Exit.then]); refine bodyPost_ret (results_eig2 rfl rfl rfl HE.out.1) rfl ?_)
              exact HE.out.2
      | true =>
        have HL7 : Hid (LM nds M d R w a me wk p o (tRest r n m) w5 c5 s5) := by
          have h := HL5.out
          rw [if_neg (by simp)] at h
          exact h
        clear HL5
        have HD := Lib.hid (lbring_touch (me := me) (n := n) HL7.out.bt.lv HL7.out.bt.inv hM)
        obtain ⟨t0, t1, t2⟩ := HL7.out.cells
        go_wp2_with fail
        refine HD.out.mono ?_
        clear HD t0 t1 t2
        intro e w6 hP
        rcases BT.call (K := fun b => if (b && m) = true then .ret (Sn.nil, 2) else (tDo (gInfo r)).bind fun n2 => (tBring n2).bind fun _ => .ret (Sn.nil, 1)) HL7.out.bt (run_kpL kl_bring) hP with ⟨b, c6, s6, rfl, -, hB, hKp⟩ | hx
        case inr => obtain ⟨rfl, hx⟩ := hx; exact ⟨rfl, .inr ⟨rfl, hx⟩⟩
        have HT1 := Lib.hid (HL7.out.next hB hKp)
        clear hB hKp hP HL7
        cases b with
        | false =>
          have HT2 : Hid (LM nds M d R w a me wk p o ((tDo (gInfo r)).bind fun n2 => (tBring n2).bind fun _ => .ret (Sn.nil, 1)) w6 c6 s6) := HT1.out
          clear HT1
          obtain ⟨t0, t1, t2⟩ := HT2.out.cells
          go_wp2_with fail
          clear t0 t1 t2
          refine region_T (fun _ => false) (fun w' => w'.cell? ⟨p, 0, none⟩ = some (ptr a) ∧ w'.cell? ⟨p, 1, none⟩ = some (ptr d.W) ∧ w'.cell? ⟨p, 2, none⟩ = some (.int .i64 (me : Int))) (by kernel_rfl) ?_
          obtain ⟨X0, hX0, hbX0⟩ : ∃ X0 : World, w6.drew = X0 ∧ Below w6.heap.size w6 X0 := ⟨_, rfl, (Below.refl _ w6).drew⟩
          have HT3 := Lib.hid (HT2.out.below hbX0)
          rw [hX0]
          clear hX0 HT2 hbX0
          have hC := HT3.out.cells
          refine takeX 0 55 (v := ?_) rfl rfl (by kernel_rfl) (by kernel_rfl) (by kernel_rfl) (by kernel_rfl) (by kernel_rfl) (fun _ _ _ _ h => h) hC (by rfl) ?_ ?_
          rotate_left
          · intro w hSw; (try dsimp only at hSw); go_simp; try (with_reducible rfl)
          simp only [List.setIfInBounds_toArray, List.set_cons_zero, List.set_cons_succ]
          refine takeX 1 56 (v := ?_) rfl rfl (by kernel_rfl) (by kernel_rfl) (by kernel_rfl) (by kernel_rfl) (by kernel_rfl) (fun _ _ _ _ h => h) hC (by rfl) ?_ ?_
          rotate_left
          · intro w hSw; (try dsimp only at hSw); go_simp; try (with_reducible rfl)
          simp only [List.setIfInBounds_toArray, List.set_cons_zero, List.set_cons_succ]
          refine takeX 2 57 (v := ?_) rfl rfl (by kernel_rfl) (by kernel_rfl) (by kernel_rfl) (by kernel_rfl) (by kernel_rfl) (fun _ _ _ _ h => h) hC (by rfl) ?_ ?_
          rotate_left
          · intro w hSw; (try dsimp only at hSw); go_simp; try (with_reducible rfl)
          simp only [List.setIfInBounds_toArray, List.set_cons_zero, List.set_cons_succ]
          refine oneT (i := 3) (by kernel_rfl) rfl (by rfl) (fun K hK => ?_)
          go_simp
          refine (linfo_touch (me := me) (r := r) HT3.out.bt.lv).mono ?_
          intro e w7 hP
          rcases BT.call (K := fun n2 => (tBring n2).bind fun _ => .ret (Sn.nil, 1)) HT3.out.bt (run_kpL kl_info) hP with ⟨n2, c7, s7, rfl, -, hB, hKp⟩ | hx
          case inr => obtain ⟨rfl, hx⟩ := hx; exact ⟨rfl, .inr ⟨rfl, hx⟩⟩
          have HT4 := Lib.hid (HT3.out.next hB hKp)
          refine hK.out _ _ (fun _ => HT4.out.cells) ?_
          clear hK K hC hB hKp hP HT3
          have hC := HT4.out.cells
          try simp only [Act.put, List.setIfInBounds_toArray, List.set_cons_zero, List.set_cons_succ]
          refine oneT (i := 4) (by kernel_rfl) rfl (by rfl) (fun K hK => ?_)
          go_simp
          refine (lbring_touch (me := me) (n := n2) HT4.out.bt.lv HT4.out.bt.inv hM).mono ?_
          intro e w8 hP
          rcases BT.call (K := fun _ => .ret ((Sn.nil, 1) : Sn × Int)) HT4.out.bt (run_kpL kl_bring) hP with ⟨b2, c8, s8, rfl, -, hB, hKp⟩ | hx
          case inr => obtain ⟨rfl, hx⟩ := hx; exact ⟨rfl, .inr ⟨rfl, hx⟩⟩
          have HT5 := Lib.hid (HT4.out.next hB hKp)
          refine hK.out _ _ (fun _ => HT5.out.cells) ?_
          clear hK K hC hB hKp hP HT4
          try simp only [Act.put, List.setIfInBounds_toArray, List.set_cons_zero, List.set_cons_succ]
          refine doneT (by kernel_rfl) ?_
          obtain ⟨x0, x1, x2, x3, x4, x5, x6, x7⟩ := HT5.out.e1.cells
          obtain ⟨f0, f1, f2, f3, f4, f5, f6, f7⟩ := HT5.out.e1.frees
          have HE := Lib.hid (HT5.out.finN HR.out)
          clear HT5
          go_wp2
          ((try simp only [Exit.inBlock, Exit.then]); refine bodyPost_ret (results_eig2 rfl rfl rfl HE.out.1) rfl ?_)
          exact HE.out.2
        | true =>
          cases m with
          | false =>
            have HT2 : Hid (LM nds M d R w a me wk p o ((tDo (gInfo r)).bind fun n2 => (tBring n2).bind fun _ => .ret (Sn.nil, 1)) w6 c6 s6) := HT1.out
            clear HT1
            obtain ⟨t0, t1, t2⟩ := HT2.out.cells
            go_wp2_with fail
            clear t0 t1 t2
            refine region_T (fun _ => false) (fun w' => w'.cell? ⟨p, 0, none⟩ = some (ptr a) ∧ w'.cell? ⟨p, 1, none⟩ = some (ptr d.W) ∧ w'.cell? ⟨p, 2, none⟩ = some (.int .i64 (me : Int))) (by kernel_rfl) ?_
            obtain ⟨X0, hX0, hbX0⟩ : ∃ X0 : World, w6.drew = X0 ∧ Below w6.heap.size w6 X0 := ⟨_, rfl, (Below.refl _ w6).drew⟩
            have HT3 := Lib.hid (HT2.out.below hbX0)
            rw [hX0]
            clear hX0 HT2 hbX0
            have hC := HT3.out.cells
            refine takeX 0 55 (v := ?_) rfl rfl (by kernel_rfl) (by kernel_rfl) (by kernel_rfl) (by kernel_rfl) (by kernel_rfl) (fun _ _ _ _ h => h) hC (by rfl) ?_ ?_
            rotate_left
            · intro w hSw; (try dsimp only at hSw); go_simp; try (with_reducible rfl)
            simp only [List.setIfInBounds_toArray, List.set_cons_zero, List.set_cons_succ]
            refine takeX 1 56 (v := ?_) rfl rfl (by kernel_rfl) (by kernel_rfl) (by kernel_rfl) (by kernel_rfl) (by kernel_rfl) (fun _ _ _ _ h => h) hC (by rfl) ?_ ?_
            rotate_left
            · intro w hSw; (try dsimp only at hSw); go_simp; try (with_reducible rfl)
            simp only [List.setIfInBounds_toArray, List.set_cons_zero, List.set_cons_succ]
            refine takeX 2 57 (v := ?_) rfl rfl (by kernel_rfl) (by kernel_rfl) (by kernel_rfl) (by kernel_rfl) (by kernel_rfl) (fun _ _ _ _ h => h) hC (by rfl) ?_ ?_
            rotate_left
            · intro w hSw; (try dsimp only at hSw); go_simp; try (with_reducible rfl)
            simp only [List.setIfInBounds_toArray, List.set_cons_zero, List.set_cons_succ]
            refine oneT (i := 3) (by kernel_rfl) rfl (by rfl) (fun K hK => ?_)
            go_simp
            refine (linfo_touch (me := me) (r := r) HT3.out.bt.lv).mono ?_
            intro e w7 hP
            rcases BT.call (K := fun n2 => (tBring n2).bind fun _ => .ret (Sn.nil, 1)) HT3.out.bt (run_kpL kl_info) hP with ⟨n2, c7, s7, rfl, -, hB, hKp⟩ | hx
            case inr => obtain ⟨rfl, hx⟩ := hx; exact ⟨rfl, .inr ⟨rfl, hx⟩⟩
            have HT4 := Lib.hid (HT3.out.next hB hKp)
            refine hK.out _ _ (fun _ => HT4.out.cells) ?_
            clear hK K hC hB hKp hP HT3
            have hC := HT4.out.cells
            try simp only [Act.put, List.setIfInBounds_toArray, List.set_cons_zero, List.set_cons_succ]
            refine oneT (i := 4) (by kernel_rfl) rfl (by rfl) (fun K hK => ?_)
            go_simp
            refine (lbring_touch (me := me) (n := n2) HT4.out.bt.lv HT4.out.bt.inv hM).mono ?_
            intro e w8 hP
            rcases BT.call (K := fun _ => .ret ((Sn.nil, 1) : Sn × Int)) HT4.out.bt (run_kpL kl_bring) hP with ⟨b2, c8, s8, rfl, -, hB, hKp⟩ | hx
            case inr => obtain ⟨rfl, hx⟩ := hx; exact ⟨rfl, .inr ⟨rfl, hx⟩⟩
            have HT5 := Lib.hid (HT4.out.next hB hKp)
            refine hK.out _ _ (fun _ => HT5.out.cells) ?_
            clear hK K hC hB hKp hP HT4
            try simp only [Act.put, List.setIfInBounds_toArray, List.set_cons_zero, List.set_cons_succ]
            refine doneT (by kernel_rfl) ?_
            obtain ⟨x0, x1, x2, x3, x4, x5, x6, x7⟩ := HT5.out.e1.cells
            obtain ⟨f0, f1, f2, f3, f4, f5, f6, f7⟩ := HT5.out.e1.frees
            have HE := Lib.hid (HT5.out.finN HR.out)
            clear HT5
            go_wp2
            ((try simp only [Exit.inBlock, Exit.then]); refine bodyPost_ret (results_eig2 rfl rfl rfl HE.out.1) rfl ?_)
            exact HE.out.2
          | true =>
            have HT2 : Hid (LM nds M d R w a me wk p o (.ret (Sn.nil, 2)) w6 c6 s6) := HT1.out
            clear HT1
            obtain ⟨x0, x1, x2, x3, x4, x5, x6, x7⟩ := HT2.out.e1.cells
            obtain ⟨f0, f1, f2, f3, f4, f5, f6, f7⟩ := HT2.out.e1.frees
            have HE := Lib.hid (HT2.out.finN HR.out)
            clear HT2
            go_wp2
            ((try simp only [Exit.inBlock, Exit.then]); refine bodyPost_ret (results_eig2 rfl rfl rfl HE.out.1) rfl ?_)
            exact HE.out.2
    · have hd1 : (st = 0) = False := eq_false h0
      have hd2 : (st = 2) = False := eq_false h2
      have HL7 : Hid (LM nds M d R w a me wk p o (tRest r n m) w5 c5 s5) := by
        have h := HL5.out
        rw [if_neg (by rintro (e | ⟨e, -⟩); exact h0 e; exact h2 e)] at h
        exact h
      clear HL5 hd1 hd2
      have HD := Lib.hid (lbring_touch (me := me) (n := n) HL7.out.bt.lv HL7.out.bt.inv hM)
      obtain ⟨t0, t1, t2⟩ := HL7.out.cells
      go_wp2_with fail
      refine HD.out.mono ?_
      clear HD t0 t1 t2
      intro e w6 hP
      rcases BT.call (K := fun b => if (b && m) = true then .ret (Sn.nil, 2) else (tDo (gInfo r)).bind fun n2 => (tBring n2).bind fun _ => .ret (Sn.nil, 1)) HL7.out.bt (run_kpL kl_bring) hP with ⟨b, c6, s6, rfl, -, hB, hKp⟩ | hx
      case inr => obtain ⟨rfl, hx⟩ := hx; exact ⟨rfl, .inr ⟨rfl, hx⟩⟩
      have HT1 := Lib.hid (HL7.out.next hB hKp)
      clear hB hKp hP HL7
      cases b with
      | false =>
        have HT2 : Hid (LM nds M d R w a me wk p o ((tDo (gInfo r)).bind fun n2 => (tBring n2).bind fun _ => .ret (Sn.nil, 1)) w6 c6 s6) := HT1.out
        clear HT1
        obtain ⟨t0, t1, t2⟩ := HT2.out.cells
        go_wp2_with fail
        clear t0 t1 t2
        refine region_T (fun _ => false) (fun w' => w'.cell? ⟨p, 0, none⟩ = some (ptr a) ∧ w'.cell? ⟨p, 1, none⟩ = some (ptr d.W) ∧ w'.cell? ⟨p, 2, none⟩ = some (.int .i64 (me : Int))) (by kernel_rfl) ?_
        obtain ⟨X0, hX0, hbX0⟩ : ∃ X0 : World, w6.drew = X0 ∧ Below w6.heap.size w6 X0 := ⟨_, rfl, (Below.refl _ w6).drew⟩
        have HT3 := Lib.hid (HT2.out.below hbX0)
        rw [hX0]
        clear hX0 HT2 hbX0
        have hC := HT3.out.cells
        refine takeX 0 55 (v := ?_) rfl rfl (by kernel_rfl) (by kernel_rfl) (by kernel_rfl) (by kernel_rfl) (by kernel_rfl) (fun _ _ _ _ h => h) hC (by rfl) ?_ ?_
        rotate_left
        · intro w hSw; (try dsimp only at hSw); go_simp; try (with_reducible rfl)
        simp only [List.setIfInBounds_toArray, List.set_cons_zero, List.set_cons_succ]
        refine takeX 1 56 (v := ?_) rfl rfl (by kernel_rfl) (by kernel_rfl) (by kernel_rfl) (by kernel_rfl) (by kernel_rfl) (fun _ _ _ _ h => h) hC (by rfl) ?_ ?_
        rotate_left
        · intro w hSw; (try dsimp only at hSw); go_simp; try (with_reducible rfl)
        simp only [List.setIfInBounds_toArray, List.set_cons_zero, List.set_cons_succ]
        refine takeX 2 57 (v := ?_) rfl rfl (by kernel_rfl) (by kernel_rfl) (by kernel_rfl) (by kernel_rfl) (by kernel_rfl) (fun _ _ _ _ h => h) hC (by rfl) ?_ ?_
        rotate_left
        · intro w hSw; (try dsimp only at hSw); go_simp; try (with_reducible rfl)
        simp only [List.setIfInBounds_toArray, List.set_cons_zero, List.set_cons_succ]
        refine oneT (i := 3) (by kernel_rfl) rfl (by rfl) (fun K hK => ?_)
        go_simp
        refine (linfo_touch (me := me) (r := r) HT3.out.bt.lv).mono ?_
        intro e w7 hP
        rcases BT.call (K := fun n2 => (tBring n2).bind fun _ => .ret (Sn.nil, 1)) HT3.out.bt (run_kpL kl_info) hP with ⟨n2, c7, s7, rfl, -, hB, hKp⟩ | hx
        case inr => obtain ⟨rfl, hx⟩ := hx; exact ⟨rfl, .inr ⟨rfl, hx⟩⟩
        have HT4 := Lib.hid (HT3.out.next hB hKp)
        refine hK.out _ _ (fun _ => HT4.out.cells) ?_
        clear hK K hC hB hKp hP HT3
        have hC := HT4.out.cells
        try simp only [Act.put, List.setIfInBounds_toArray, List.set_cons_zero, List.set_cons_succ]
        refine oneT (i := 4) (by kernel_rfl) rfl (by rfl) (fun K hK => ?_)
        go_simp
        refine (lbring_touch (me := me) (n := n2) HT4.out.bt.lv HT4.out.bt.inv hM).mono ?_
        intro e w8 hP
        rcases BT.call (K := fun _ => .ret ((Sn.nil, 1) : Sn × Int)) HT4.out.bt (run_kpL kl_bring) hP with ⟨b2, c8, s8, rfl, -, hB, hKp⟩ | hx
        case inr => obtain ⟨rfl, hx⟩ := hx; exact ⟨rfl, .inr ⟨rfl, hx⟩⟩
        have HT5 := Lib.hid (HT4.out.next hB hKp)
        refine hK.out _ _ (fun _ => HT5.out.cells) ?_
        clear hK K hC hB hKp hP HT4
        try simp only [Act.put, List.setIfInBounds_toArray, List.set_cons_zero, List.set_cons_succ]
        refine doneT (by kernel_rfl) ?_
        obtain ⟨x0, x1, x2, x3, x4, x5, x6, x7⟩ := HT5.out.e1.cells
        obtain ⟨f0, f1, f2, f3, f4, f5, f6, f7⟩ := HT5.out.e1.frees
        have HE := Lib.hid (HT5.out.finN HR.out)
        clear HT5
        go_wp2
        ((try simp only [Exit.inBlock, Exit.then]); refine bodyPost_ret (results_eig2 rfl rfl rfl HE.out.1) rfl ?_)
        exact HE.out.2
      | true =>
        cases m with
        | false =>
          have HT2 : Hid (LM nds M d R w a me wk p o ((tDo (gInfo r)).bind fun n2 => (tBring n2).bind fun _ => .ret (Sn.nil, 1)) w6 c6 s6) := HT1.out
          clear HT1
          obtain ⟨t0, t1, t2⟩ := HT2.out.cells
          go_wp2_with fail
          clear t0 t1 t2
          refine region_T (fun _ => false) (fun w' => w'.cell? ⟨p, 0, none⟩ = some (ptr a) ∧ w'.cell? ⟨p, 1, none⟩ = some (ptr d.W) ∧ w'.cell? ⟨p, 2, none⟩ = some (.int .i64 (me : Int))) (by kernel_rfl) ?_
          obtain ⟨X0, hX0, hbX0⟩ : ∃ X0 : World, w6.drew = X0 ∧ Below w6.heap.size w6 X0 := ⟨_, rfl, (Below.refl _ w6).drew⟩
          have HT3 := Lib.hid (HT2.out.below hbX0)
          rw [hX0]
          clear hX0 HT2 hbX0
          have hC := HT3.out.cells
          refine takeX 0 55 (v := ?_) rfl rfl (by kernel_rfl) (by kernel_rfl) (by kernel_rfl) (by kernel_rfl) (by kernel_rfl) (fun _ _ _ _ h => h) hC (by rfl) ?_ ?_
          rotate_left
          · intro w hSw; (try dsimp only at hSw); go_simp; try (with_reducible rfl)
          simp only [List.setIfInBounds_toArray, List.set_cons_zero, List.set_cons_succ]
          refine takeX 1 56 (v := ?_) rfl rfl (by kernel_rfl) (by kernel_rfl) (by kernel_rfl) (by kernel_rfl) (by kernel_rfl) (fun _ _ _ _ h => h) hC (by rfl) ?_ ?_
          rotate_left
          · intro w hSw; (try dsimp only at hSw); go_simp; try (with_reducible rfl)
          simp only [List.setIfInBounds_toArray, List.set_cons_zero, List.set_cons_succ]
          refine takeX 2 57 (v := ?_) rfl rfl (by kernel_rfl) (by kernel_rfl) (by kernel_rfl) (by kernel_rfl) (by kernel_rfl) (fun _ _ _ _ h => h) hC (by rfl) ?_ ?_
          rotate_left
          · intro w hSw; (try dsimp only at hSw); go_simp; try (with_reducible rfl)
          simp only [List.setIfInBounds_toArray, List.set_cons_zero, List.set_cons_succ]
          refine oneT (i := 3) (by kernel_rfl) rfl (by rfl) (fun K hK => ?_)
          go_simp
          refine (linfo_touch (me := me) (r := r) HT3.out.bt.lv).mono ?_
          intro e w7 hP
          rcases BT.call (K := fun n2 => (tBring n2).bind fun _ => .ret (Sn.nil, 1)) HT3.out.bt (run_kpL kl_info) hP with ⟨n2, c7, s7, rfl, -, hB, hKp⟩ | hx
          case inr => obtain ⟨rfl, hx⟩ := hx; exact ⟨rfl, .inr ⟨rfl, hx⟩⟩
          have HT4 := Lib.hid (HT3.out.next hB hKp)
          refine hK.out _ _ (fun _ => HT4.out.cells) ?_
          clear hK K hC hB hKp hP HT3
          have hC := HT4.out.cells
          try simp only [Act.put, List.setIfInBounds_toArray, List.set_cons_zero, List.set_cons_succ]
          refine oneT (i := 4) (by kernel_rfl) rfl (by rfl) (fun K hK => ?_)
          go_simp
          refine (lbring_touch (me := me) (n := n2) HT4.out.bt.lv HT4.out.bt.inv hM).mono ?_
          intro e w8 hP
          rcases BT.call (K := fun _ => .ret ((Sn.nil, 1) : Sn × Int)) HT4.out.bt (run_kpL kl_bring) hP with ⟨b2, c8, s8, rfl, -, hB, hKp⟩ | hx
          case inr => obtain ⟨rfl, hx⟩ := hx; exact ⟨rfl, .inr ⟨rfl, hx⟩⟩
          have HT5 := Lib.hid (HT4.out.next hB hKp)
          refine hK.out _ _ (fun _ => HT5.out.cells) ?_
          clear hK K hC hB hKp hP HT4
          try simp only [Act.put, List.setIfInBounds_toArray, List.set_cons_zero, List.set_cons_succ]
          refine doneT (by kernel_rfl) ?_
          obtain ⟨x0, x1, x2, x3, x4, x5, x6, x7⟩ := HT5.out.e1.cells
          obtain ⟨f0, f1, f2, f3, f4, f5, f6, f7⟩ := HT5.out.e1.frees
          have HE := Lib.hid (HT5.out.finN HR.out)
          clear HT5
          go_wp2
          ((try simp only [Exit.inBlock, Exit.then]); refine bodyPost_ret (results_eig2 rfl rfl rfl HE.out.1) rfl ?_)
          exact HE.out.2
        | true =>
          have HT2 : Hid (LM nds M d R w a me wk p o (.ret (Sn.nil, 2)) w6 c6 s6) := HT1.out
          clear HT1
          obtain ⟨x0, x1, x2, x3, x4, x5, x6, x7⟩ := HT2.out.e1.cells
          obtain ⟨f0, f1, f2, f3, f4, f5, f6, f7⟩ := HT2.out.e1.frees
          have HE := Lib.hid (HT2.out.finN HR.out)
          clear HT2
          go_wp2
          ((try simp only [Exit.inBlock, Exit.then]); refine bodyPost_ret (results_eig2 rfl rfl rfl HE.out.1) rfl ?_)
          exact HE.out.2
end
end Go.Proofs.YtcegianjpifnbaaGreat
