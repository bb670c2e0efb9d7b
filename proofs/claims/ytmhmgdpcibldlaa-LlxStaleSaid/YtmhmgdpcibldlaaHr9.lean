/-
  What help's finish and Record come to within work: touch by touch.
-/
import Derived.Test.YtmhmgdpcibldlaaHw9
import Derived.Test.YtmhmgdpcibldlaaBj8
namespace Go.Proofs.Ytmhmgdpcibldlaa
open Go.ChangeShapes Go.WideShapes Go.ChangeAt Go.RowKit
set_option linter.unusedVariables false
set_option linter.unusedSimpArgs false
set_option maxRecDepth 20000

section
variable {α β : Type} {L : Nat}
theorem keeps_len {g : Sig → Int × Sig} {K : Int → Tr α} (hg : ∀ s, (g s).2.S = s.S) (hK : ∀ z, (K z).keeps (lenP L)) : (Tr.tch g K).keeps (lenP L) := ⟨fun s e => (by unfold lenP at e ⊢; rw [hg]; exact e), hK⟩
theorem keeps_ite {b : Bool} {t u : Tr α} (ht : t.keeps (lenP L)) (hu : u.keeps (lenP L)) : (if b = true then t else u).keeps (lenP L) := by cases b <;> assumption
theorem take_keeps (r o n : Int) : (tTake r o n).keeps (lenP L) := keeps_len (fun s => rfl) fun z => keeps_ite trivial (keeps_len (fun s => rfl) fun _ => trivial)
theorem tSet_keeps (n t : Int) : (tSet n t).keeps (lenP L) := keeps_len (fun s => rfl) fun z => trivial
theorem settle_keeps (n : Int) : (tSettle n).keeps (lenP L) := keeps_len (fun s => rfl) fun z => keeps_ite trivial (keeps_bind (tSet_keeps n 0) fun _ => trivial)
theorem marks_keeps {F : Tr Unit} (hF : F.keeps (lenP L)) (l : List Int) : (tMarks F l).keeps (lenP L) := by
  induction l with
  | nil => exact hF
  | cons r l ih => exact keeps_len (fun s => rfl) fun _ => ih
theorem way_keeps (r : Rc) {F : Tr Unit} (hF : F.keeps (lenP L)) : (tWay r F).keeps (lenP L) := by
  unfold tWay
  split
  · exact hF
  · exact keeps_len (fun s => rfl) fun _ => hF
theorem finish_keeps (r : Rc) (n : Int) : (tFinish r n).keeps (lenP L) := keeps_len (fun s => rfl) fun _ => marks_keeps (way_keeps r (tSet_keeps n 2)) _
end
section
variable {d : Wd} {R R' : Nat → Prop} {w w' w0 : World} {a st ph k me : Nat} {wk : Value} {zs : List Int} {c : Cur} {s : Sig} {n : Int}
/-- A slice that stays. -/
theorem Sl.kp {A : Option Addr} {m q : Nat} {rs : List Int} (h : Sl w A m q rs) (hA : ∀ ad, A = some ad → R ad.block) (hk : Kp R w w') : Sl w' A m q rs := h.keepAt fun ad e _ => hk.block _ (hA ad e)
/-- 's[k:]': its address under one name, in the same block. -/
theorem cut_from2 {sl el : TypeId} (RT : RowT sl el) {A : Option Addr} {n c : Nat} {zs : List Int} (h : Sl w A n c zs) (k : Nat) (hk : k ≤ n) :
    ∃ A' : Option Addr, Sl w A' (n - k) (c - k) (zs.drop k) ∧ (∀ ad, A' = some ad → ∃ ad0, A = some ad0 ∧ ad0.block = ad.block) ∧ ∀ W : World, (Instr.slice sl (.slice A n c) (some (.int .i64 (k : Int))) none none).run Try.prog W = .ok (.slice A' (n - k) (c - k)) W := by
  refine ⟨_, h.from_ hk, ?_, fun W => ?_⟩
  · intro ad e
    split at e
    · exact ⟨ad, e, rfl⟩
    · cases A with
      | none => cases e
      | some ad0 => injection e with e; exact ⟨ad0, rfl, by rw [← e]; show _ = (ad0.add k).block; unfold Addr.add; (try split) <;> rfl⟩
  · rw [run_slice_l (P := Try.prog) (t := sl) _ _ _ _ RT.under2 .i64 (k : Int) (by omega) (by omega), RT.elem W]
    simp [Result.andThen, sliced]
theorem boxes_R (w : World) (a W me : Nat) (u v : Value) (k y o n z : Int) : ∃ (X : World) (p q r : Nat), ((w.alloc (.cells #[ptr a, ptr W, .int .i64 (me : Int)] tkT)).alloc (.cells #[u, v, .int .i64 k, .int .i64 y, .int .i64 o, .int .i64 n] 39)).alloc (.cells #[.int .i64 z] 2) = X ∧ w.heap.size = p ∧ p + 1 = q ∧ q + 1 = r ∧ Below w.heap.size w X ∧ Tk X p a W me ∧ Six X q u v k y o n ∧ X.cell? ⟨r, 0, none⟩ = some (.int .i64 z) ∧ X.heap.size = r + 1 :=
  ⟨_, _, _, _, rfl, rfl, rfl, rfl, (((Below.refl _ w).alloc (Nat.le_refl _) _).alloc (by simp) _).alloc (by simp; omega) _, ⟨c_old (c_old (Tk.new w a W me).c0), c_old (c_old (Tk.new w a W me).c1), c_old (c_old (Tk.new w a W me).c2)⟩, (Six.new _ (by simp) u v k y o n).below (below_new _ _), c_new (by simp) rfl, by simp⟩
theorem Six.kp {X : Nat → Prop} {b : Nat} {u v : Value} {k y o n : Int} (h : Six w b u v k y o n) (hk : Kp X w w') (hb : X b) : Six w' b u v k y o n := (hk.block b hb).trans h
set_option maxHeartbeats 4000000 in
theorem finish_touch {A B : Option Addr} {m c0 m' c1 : Nat} {ns is : List Int} {kp wy od nw : Int} (h : Lv d R w a wk c s) (hs : Sl w A m c0 ns) (hA : ∀ ad, A = some ad → R ad.block) (hm : m ≤ 1000) (hk : 0 ≤ kp) :
    Calls Try.prog 80 #[tkV a d.W me, rcv (.slice A m c0) (.slice B m' c1) ⟨ns, is, kp, wy, od, nw⟩, .int .i64 n] w (Post d R w a wk uV (run (tFinish ⟨ns, is, kp, wy, od, nw⟩ n) c s)) := by
  have e3 := mk_fn
  obtain ⟨W, p, q, q2, hW, hp, hq, hq2, bb, tk, v1, v2, hsz⟩ := boxes_R w a d.W me (.slice A m c0) (.slice B m' c1) kp wy od nw n
  obtain ⟨u, hu⟩ : ∃ u, run (tFinish ⟨ns, is, kp, wy, od, nw⟩ n) c s = u := ⟨_, rfl⟩
  rw [hu]
  obtain ⟨kk, hkk⟩ : ∃ kk, min kp.toNat ns.length = kk := ⟨_, rfl⟩
  have hml := hs.len
  have hmin : min kp (m : Int) = (kk : Int) := by rw [← hkk]; omega
  have hkm : kk ≤ m := by rw [← hkk]; omega
  obtain ⟨F, hF⟩ : ∃ F, tWay ⟨ns, is, kp, wy, od, nw⟩ (tSet n 2) = F := ⟨_, rfl⟩
  have HF := Lib.hid hF
  have HB : Hid (BS d R (fun b => R b ∨ p ≤ b ∧ b ≤ q2) w a me wk p s.S.length (c.zs.length + 2) u (.tch (gSetAll n) fun _ => tMarks F (ns.drop kk)) W c s) := ⟨by rw [← hu, ← hF, ← hkk]; rfl, h.more bb (fun b e => e.imp id fun e => by omega), fun b e => e.imp id fun e => by omega, Kp.new h bb, tk, rfl, fun _ => Nat.le_refl _⟩
  have HX : Hid (p ≤ q ∧ q ≤ q2) := ⟨by omega, by omega⟩
  have HFK : Hid (F.keeps (lenP s.S.length)) := by show F.keeps _; rw [← hF]; exact way_keeps _ (tSet_keeps n 2)
  generalize s.S.length = L at HB HFK
  generalize c.zs.length + 2 = N at HB
  have HSL := Lib.hid (hs.below bb)
  have HAD := Lib.hid hA
  obtain ⟨A2, s2, a2, hcut⟩ := cut_from2 rowR hs kk hkm
  have HS2 := Lib.hid (s2.below bb)
  have HA2 : Hid (∀ ad, A2 = some ad → R ad.block) := fun ad e => by obtain ⟨ad0, e1, e2⟩ := a2 ad e; rw [← e2]; exact hA ad0 e1
  have HML := Lib.hid hml
  obtain ⟨mk, hmk⟩ : ∃ mk, m - kk = mk := ⟨_, rfl⟩
  rw [hmk] at hcut HS2
  have hmk2 : mk ≤ 1000 := by omega
  have HMK : Hid ((ns.drop kk).length = mk) := by show _ = _; rw [List.length_drop]; omega
  have HC := Lib.hid hcut
  have HD := Lib.hid (htouch (me := me) (f := 100) (cap := #[ptr p, ptr q2]) (g := gSetAll n) (fun W => rfl) HB.out.lv (fun _ => rfl) (by
    intro hl w1 FW hWS hR hsz
    obtain ⟨x1, x2⟩ := HX.out
    exact fin1_walk hWS (h.fit hl) (tk.cells (hR _ (.inr ⟨by omega, by omega⟩)).1) (cell_same (hR _ (.inr ⟨by omega, by omega⟩)).1 v2)))
  have HV1 := Lib.hid v1
  have HV2 := Lib.hid v2
  obtain ⟨t0, t1, t2⟩ := tk
  clear h bb hu hsz v1 v2 hs hA hF s2 a2 hcut hkk hml
  go_enter Try.func80, Try.ntmps80
  go_wp2_with fail
  clear hW hp hq hq2
  refine HD.out.mono ?_
  clear HD t0 t1 t2
  intro e w1 hP
  have hT := BS.call (t := .tch (gSetAll n) fun _ => .ret ()) (K := fun _ => tMarks F (ns.drop kk)) (U := uV) (Q := fun _ => True) HB.out (keeps_len (fun s => rfl) fun _ => trivial) (fun _ _ _ _ => trivial) hP
  clear hP
  obtain ⟨v, c2, s2, rfl, -, hB, hKp⟩ | ⟨rfl, hP⟩ := hT
  case inr => exact ⟨rfl, hP⟩
  have HB2 : Hid (BS d R (fun b => R b ∨ p ≤ b ∧ b ≤ q2) w a me wk p L N u (tMarks F ((ns.drop kk).drop 0)) w1 c2 s2) := hB
  have HK2 := Lib.hid hKp
  obtain ⟨x0, x1, x2, x3, x4, x5⟩ := (HV1.out.kp hKp (.inr HX.out)).cells
  have hrun := HC.out
  clear HB hB hKp
  go_wp2_with fail
  clear x0 x1 x2 x3 x4 x5 hrun hmin
  go_loopg [21] mk (fun gk i wr => ∃ (j : Nat) (c' : Cur) (s' : Sig), j + gk = mk ∧ i = .int .i64 (j : Int) ∧ Hid (BS d R (fun b => R b ∨ p ≤ b ∧ b ≤ q2) w a me wk p L N u (tMarks F ((ns.drop kk).drop j)) wr c' s') ∧ Hid (Kp (fun b => R b ∨ p ≤ b ∧ b ≤ q2) W wr))
  case atStart => exact ⟨0, c2, s2, by omega, rfl, HB2.out, HK2.out⟩
  case round =>
    clear HB2 HK2
    obtain ⟨j, c1, s1, hj, rfl, HH, HK⟩ := hrel
    by_cases hlt : j < mk
    case neg =>
      have i1 : ¬ ((j : Int) < (mk : Int)) := by omega
      have HB3 : Hid (BS d R (fun b => R b ∨ p ≤ b ∧ b ≤ q2) w a me wk p L N u (tWay ⟨ns, is, kp, wy, od, nw⟩ (tSet n 2)) wr c1 s1) := by
        have hB := HH.out
        rw [List.drop_eq_nil_of_le (by rw [HMK.out]; omega)] at hB
        rw [HF.out]
        exact hB
      have h6 := HV1.out.kp HK.out (.inr ⟨HX.out.1, HX.out.2⟩)
      have h2 := HK.out.read (p := ⟨q2, 0, none⟩) (.inr ⟨Nat.le_trans HX.out.1 HX.out.2, Nat.le_refl _⟩) HV2.out
      have HV1' := Lib.hid h6
      obtain ⟨x0, x1, x2, x3, x4, x5⟩ := h6.cells
      obtain ⟨t0, t1, t2⟩ := HB3.out.tk
      clear HH h6 HF HFK
      by_cases hm0 : m = 0
      · subst hm0
        have HB4 : Hid (BS d R (fun b => R b ∨ p ≤ b ∧ b ≤ q2) w a me wk p L N u (tSet n 2) wr c1 s1) := by
          have hB := HB3.out
          have hn : ns = [] := List.eq_nil_of_length_eq_zero HML.out.symm
          rw [hn] at hB
          exact hB
        clear HB3
        have HD := Lib.hid (set_touch (me := me) (n := n) (t := 2) HB4.out.lv)
        go_wp2_with fail
        refine HD.out.mono ?_
        clear HD t0 t1 t2 h2
        intro e w3 hP
        have hP2 := HB4.out.last hP
        cases hr : run (tSet n 2) c1 s1 with
        | wait zs st s' =>
          rw [hr] at hP
          obtain ⟨-, rfl, -⟩ := hP
          exact ⟨rfl, hP2⟩
        | ret z c' s' =>
          rw [hr] at hP
          obtain ⟨-, rfl, -⟩ := hP
          have HE := Lib.hid hP2
          clear hP2 hr x0 x1 x2 x3 x4 x5
          go_wp2
          ((try simp only [Exit.inBlock, Exit.then]); refine bodyPost_end (results_none rfl _ _ _) rfl ?_)
          exact HE.out
      · obtain ⟨n0, ns', hn⟩ : ∃ n0 ns', ns = n0 :: ns' := by
          cases ns with
          | nil => exact absurd HML.out.symm (by simpa using fun e => hm0 e.symm)
          | cons n0 ns' => exact ⟨n0, ns', rfl⟩
        have HB4 : Hid (BS d R (fun b => R b ∨ p ≤ b ∧ b ≤ q2) w a me wk p L N u (.tch (gSwapWay n0 wy od nw) fun _ => tSet n 2) wr c1 s1) := by
          have hB := HB3.out
          rw [hn] at hB
          exact hB
        have hSL := (HSL.out.kp (R := fun b => R b ∨ p ≤ b ∧ b ≤ q2) (fun ad e => .inl (HAD.out ad e)) HK.out).at_ (k := 0) (by rw [hn]; simp)
        obtain ⟨ba, off, hA0, hbl, hcx⟩ := hSL
        have hc : wr.cell? ⟨ba, off, none⟩ = some (.int .i64 n0) := by
          have e : ns[0]'(by rw [hn]; simp) = n0 := by simp [hn]
          rw [e] at hcx
          exact hcx
        clear hcx
        have hbR := HAD.out _ hA0
        subst hA0
        have m0 : (0 : Int) < (m : Int) := by omega
        have HCC := Lib.hid hc
        clear HB3 hn
        have HD := Lib.hid (ask_touch (f := 102) (cap := #[ptr p, ptr q]) (g := gSwapWay n0 wy od nw) (fun W => rfl) HB4.out.lv (fun _ => swapWay_01 n0 wy od nw s1) (by
          intro hl w1 FW hWS hR hsz
          exact fin3_walk hWS (HB4.out.lv.fit hl) (HB4.out.tk.cells (hR _ (.inr ⟨Nat.le_refl _, Nat.le_trans HX.out.1 HX.out.2⟩)).1) ((hR _ (.inr HX.out)).1.trans HV1'.out) (by omega) (cell_same (hR _ (.inl hbR)).1 HCC.out)))
        clear hc hbl
        go_wp2_with fail
        refine HD.out.mono ?_
        clear HD t0 t1 t2 x0 x1 x2 x3 x4 x5
        intro e w3 hP
        have hT := BS.call (t := .tch (gSwapWay n0 wy od nw) fun y => .ret (y != 0)) (K := fun _ => tSet n 2) (U := uV) (Q := fun _ => True) HB4.out (keeps_len (fun s => rfl) fun _ => trivial) (fun _ _ _ _ => trivial) hP
        clear hP
        obtain ⟨v, c3, s3, rfl, -, hB, hKp⟩ | ⟨rfl, hP⟩ := hT
        case inr => exact ⟨rfl, hP⟩
        have HB5 := Lib.hid hB
        have h2 := hKp.read (p := ⟨q2, 0, none⟩) (.inr ⟨Nat.le_trans HX.out.1 HX.out.2, Nat.le_refl _⟩) h2
        clear hB hKp HB4
        have HD := Lib.hid (set_touch (me := me) (n := n) (t := 2) HB5.out.lv)
        obtain ⟨t0, t1, t2⟩ := HB5.out.tk
        go_wp2_with fail
        refine HD.out.mono ?_
        clear HD t0 t1 t2 h2
        intro e w4 hP
        have hP2 := HB5.out.last hP
        cases hr : run (tSet n 2) c3 s3 with
        | wait zs st s' =>
          rw [hr] at hP
          obtain ⟨-, rfl, -⟩ := hP
          exact ⟨rfl, hP2⟩
        | ret z c' s' =>
          rw [hr] at hP
          obtain ⟨-, rfl, -⟩ := hP
          have HE := Lib.hid hP2
          clear hP2 hr
          go_wp2
          ((try simp only [Exit.inBlock, Exit.then]); refine bodyPost_end (results_none rfl _ _ _) rfl ?_)
          exact HE.out
    have i1 : (j : Int) < (mk : Int) := by omega
    have i0 : (0 : Int) ≤ (j : Int) := by omega
    have hkw : IntKind.i64.wrap ((j : Int) + 1) = (j : Int) + 1 := IntWalk.i64_in _ (by omega)
    have hjl : j < (ns.drop kk).length := by rw [HMK.out]; exact hlt
    obtain ⟨b, off, rfl, hbl, hc⟩ := (HS2.out.kp (R := fun b => R b ∨ p ≤ b ∧ b ≤ q2) (fun ad e => .inl (HA2.out ad e)) HK.out).at_ hjl
    obtain ⟨r, hr⟩ : ∃ r, (ns.drop kk)[j] = r := ⟨_, rfl⟩
    rw [hr] at hc
    have hdr : (ns.drop kk).drop j = r :: (ns.drop kk).drop (j + 1) := by rw [List.drop_eq_getElem_cons hjl, hr]
    have HBj : Hid (BS d R (fun b => R b ∨ p ≤ b ∧ b ≤ q2) w a me wk p L N u (.tch (gSetMark r) fun _ => tMarks F ((ns.drop kk).drop (j + 1))) wr c1 s1) := by
      have hB := HH.out
      rw [hdr] at hB
      exact hB
    obtain ⟨Y0, y, hY0, hy, zY⟩ : ∃ (Y0 : World) (y : Nat), wr.alloc (.cells #[.int .i64 0] 34) = Y0 ∧ wr.heap.size = y ∧ Y0.heap[y]? = some (.cells #[.int .i64 0] 34 (0, 0)) := ⟨_, _, rfl, rfl, heap_alloc_new _ _⟩
    have zc := num_cell zY
    have zf : Y0.frozen? ⟨y, 0, none⟩ = false := frozen_of_row Y0 y 0 _ _ zY
    obtain ⟨Y, hY⟩ : ∃ Y, Y0.setCell ⟨y, 0, none⟩ (.int .i64 r) = Y := ⟨_, rfl⟩
    have bY : Below wr.heap.size wr Y := by
      rw [← hY, ← hY0]
      exact (below_new wr _).trans ((Only.set (· = y) _ (p := ⟨y, 0, none⟩) rfl _).below (fun b e => by omega) (by simp))
    have sY : Y.heap.size = y + 1 := by rw [← hY, ← hY0]; simp; omega
    have vY : Y.cell? ⟨y, 0, none⟩ = some (.int .i64 r) := num_cell (t := 34) (by rw [← hY]; exact heap_setCell_same Y0 y 0 _ _ _ zY)
    have HB2 : Hid (BS d R (fun b => (R b ∨ p ≤ b ∧ b ≤ q2) ∨ b = y) w a me wk p L N u (.tch (gSetMark r) fun _ => tMarks F ((ns.drop kk).drop (j + 1))) Y c1 s1) := HBj.out.more bY (fun b e => e.imp id fun e => by omega) (fun b e => .inl (e.imp id fun e => by have := HX.out; omega))
    have HKY : Hid (Kp (fun b => R b ∨ p ≤ b ∧ b ≤ q2) W Y) := HK.out.trans (Kp.below bY HBj.out.lv.lt)
    have HD := Lib.hid (htouch (me := me) (f := 101) (cap := #[ptr p, ptr y]) (g := gSetMark r) (fun W => rfl) HB2.out.lv (fun _ => (by simp only [gSetMark, gAr])) (by
      intro hl w1 FW hWS hR hsz
      exact fin2_walk hWS (HB2.out.lv.fit hl) (HB2.out.tk.cells (hR _ (.inl (.inr ⟨Nat.le_refl _, Nat.le_trans HX.out.1 HX.out.2⟩))).1) (cell_same (hR _ (.inr rfl)).1 vY)))
    obtain ⟨t0, t1, t2⟩ := HB2.out.tk
    clear HH HK hr hjl bY sY vY zY HBj hdr
    go_wp2_with fail
    (try rw [hY])
    refine HD.out.mono ?_
    clear HD t0 t1 t2 hc zc zf hY hY0
    intro e w3 hP
    have hT := BS.call (t := .tch (gSetMark r) fun _ => .ret ()) (K := fun _ => tMarks F ((ns.drop kk).drop (j + 1))) (U := uV) (Q := fun _ => True) HB2.out (keeps_len (fun s => rfl) fun _ => trivial) (fun _ _ _ _ => trivial) hP
    clear hP
    obtain ⟨v, c2, s2, rfl, -, hB, hKp⟩ | ⟨rfl, hP⟩ := hT
    case inr => exact ⟨rfl, hP⟩
    have HB4 : Hid (BS d R (fun b => R b ∨ p ≤ b ∧ b ≤ q2) w a me wk p L N u (tMarks F ((ns.drop kk).drop (j + 1))) w3 c2 s2) := ⟨hB.rn, hB.lv.mono fun b e => .inl e, fun b e => e.imp id fun e => (by have := HX.out; omega), hB.kp, hB.tk, hB.len, hB.fu⟩
    have HK4 : Hid (Kp (fun b => R b ∨ p ≤ b ∧ b ≤ q2) W w3) := HKY.out.trans (hKp.mono fun b e => .inl e)
    clear HB2 hB hKp HKY
    go_wp2
    go_roundg (gk - 1)
    case measure => omega
    case rel => exact ⟨j + 1, c2, s2, by omega, by go_num, HB4.out, HK4.out⟩
end
end Go.Proofs.Ytmhmgdpcibldlaa
