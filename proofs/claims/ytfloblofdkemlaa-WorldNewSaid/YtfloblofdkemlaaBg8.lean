/-
  What world's say and End come to within work.
-/
import Derived.Test.YtfloblofdkemlaaTp8
import Derived.Deep.LoopGhost
namespace Go.Proofs.Ytfloblofdkemlaa
open Go.ChangeShapes Go.WideShapes Go.ChangeAt Go.RowKit
set_option linter.unusedVariables false
set_option linter.unusedSimpArgs false
set_option maxRecDepth 20000

section
variable {d : Wd} {R R' : Nat → Prop} {w w' w0 : World} {a st ph k me : Nat} {wk : Value} {zs : List Int} {c : Cur} {s : Sig} {n : Int}
theorem gSay_len (i : Nat) (z : Int) (s : Sig) : (gSay i z s).2.S.length = s.S.length := by
  simp only [gSay, setSaid]
  split
  · rw [List.length_set]
  · rfl
theorem say_touch (h : Lv d R w a wk c s) (hi : c.live = true → me < s.S.length) :
    Calls Try.prog 57 #[tkV a d.W me, .int .i64 n] w (Post d R w a wk uV (run (.tch (gSay me n) fun _ => .ret ()) c s)) := by
  have e3 := mk_fn
  obtain ⟨W, p, q, hW, hp, hq, bb, tk, cc, hsz⟩ := two_boxes w a d.W me (.int .i64 n) 2
  have h1 : Lv d (fun b => R b ∨ b = p ∨ b = q) W a wk c s := h.more bb (fun b e => e.imp id fun e => by omega)
  have HD := Lib.hid (touch_touch (me := me) (f := 79) (cap := #[ptr p, ptr q]) (g := gSay me n) (fun W => rfl) h1 (fun _ => rfl) (by
    intro hl w1 FW hWS hR hsz
    exact say1_walk hWS (tk.cells (hR _ (.inr (.inl rfl))).1) (cell_same (hR _ (.inr (.inr rfl))).1 cc) (hi hl)))
  have HK := Lib.hid (Kp.new h bb)
  obtain ⟨t0, t1, t2⟩ := tk
  clear h bb cc h1 hsz hi
  generalize run (.tch (gSay me n) fun _ => .ret ()) c s = o at HD ⊢
  go_enter Try.func57, Try.ntmps57
  go_wp2_with fail
  refine HD.out.mono ?_
  clear HD
  rintro e w1 hP
  have hP2 := Post.from_ HK.out (hP.mono fun b e => .inl e)
  cases o with
  | wait zs st s' =>
    obtain ⟨k1, rfl, k2⟩ := hP2
    exact ⟨rfl, k1, rfl, k2⟩
  | ret z c' s' =>
    obtain ⟨k1, rfl, k2⟩ := hP
    have HE := Lib.hid hP2
    clear k1 k2 hP2 t0 t1 t2
    go_wp2
    ((try simp only [Exit.inBlock, Exit.then]); refine bodyPost_end (results_none rfl _ _ _) rfl ?_)
    exact HE.out
theorem one_box (w : World) (a W me : Nat) : ∃ (X : World) (p : Nat), w.alloc (.cells #[ptr a, ptr W, .int .i64 (me : Int)] tkT) = X ∧ w.heap.size = p ∧ Below w.heap.size w X ∧ Tk X p a W me ∧ X.heap.size = p + 1 :=
  ⟨_, _, rfl, rfl, below_new _ _, Tk.new w a W me, by simp⟩
/-- A touch that was come by. -/
theorem run_do {g : Sig → Int × Sig} {c c' : Cur} {s s' : Sig} {z : Int} (h : run (tDo g) c s = .ret z c' s') :
    (c.live = true ∧ c.k < c.zs.length ∧ c' = ⟨c.zs, c.st, c.k + 1, true⟩ ∧ s' = s ∧ z = c.zs.getD c.k 0) ∨ (c.live = true ∧ ¬ c.k < c.zs.length ∧ c' = ⟨c.zs ++ [(g s).1], c.st + 1, c.k + 1, false⟩ ∧ s' = (g s).2 ∧ z = (g s).1) := by
  obtain ⟨zs, st, k, live⟩ := c
  cases live with
  | false => simp [tDo, run] at h
  | true =>
    by_cases hk : k < zs.length
    · simp only [tDo, run, if_true] at h
      rw [if_pos hk] at h
      injection h with h1 h2 h3
      exact .inl ⟨rfl, hk, h2.symm, h3.symm, h1.symm⟩
    · simp only [tDo, run, if_true] at h
      rw [if_neg hk] at h
      injection h with h1 h2 h3
      exact .inr ⟨rfl, hk, h2.symm, h3.symm, h1.symm⟩
theorem run_tch {α : Type} (g : Sig → Int × Sig) (K : Int → Tr α) (c : Cur) (s : Sig) : run (.tch g K) c s = (run (tDo g) c s).bind fun z c s => run (K z) c s := run_bind (tDo g) K c s
theorem saidOf_in (hf : Fit s) (i : Nat) : in64 (saidOf s.S i) := by
  unfold saidOf
  split
  · rename_i x hx; exact hf.said x (List.mem_of_getElem? hx)
  · unfold in64; omega
/-- Where allAreAt is. -/
structure AA (d : Wd) (R : Nat → Prop) (w : World) (a me : Nat) (wk : Value) (p : Nat) (o : Out Bool) (now : Int) (s : Sig) (r j : Nat) (wr : World) (c : Cur) : Prop where
  run : o = run (tAll now r j) c s
  lv : Lv d (fun b => R b ∨ b = p) wr a wk c s
  kp : Kp R w wr
  tk : Tk wr p a d.W me
set_option maxHeartbeats 1000000 in
theorem all_touch {now : Int} (h : Lv d R w a wk c s) (hL : s.S.length ≤ 64) :
    Calls Try.prog 58 #[tkV a d.W me, .int .i64 now] w (Post d R w a wk bV (run (tAll now s.S.length 0) c s)) := by
  have e3 := mk_fn
  obtain ⟨W, p, hW, hp, bb, tk, hsz⟩ := one_box w a d.W me
  have h1 : Lv d (fun b => R b ∨ b = p) W a wk c s := h.more bb (fun b e => e.imp id fun e => by omega)
  obtain ⟨n, hn⟩ : ∃ n, s.S.length = n := ⟨_, rfl⟩
  rw [hn] at hL ⊢
  have HN := Lib.hid hn
  obtain ⟨o, ho⟩ : ∃ o, run (tAll now n 0) c s = o := ⟨_, rfl⟩
  rw [ho]
  have HA : Hid (AA d R w a me wk p o now s n 0 W c) := ⟨ho.symm, h1, Kp.new h bb, tk⟩
  obtain ⟨F0, FW0, T0, -, hWS, -, -⟩ := h1.lv
  have HLen := Lib.hid (nxW_len hWS)
  rw [hn] at HLen
  have g2 := hWS.cells.2.2.1
  obtain ⟨t0, t1, t2⟩ := tk
  clear h bb h1 hsz hn ho hWS
  go_enter Try.func58, Try.ntmps58
  go_wp2_with fail
  refine HLen.out.mono ?_
  rintro e w1 ⟨rfl, rfl⟩
  clear HLen t0 t1 t2 g2 hW hp
  go_wp2_with fail
  go_loopg [13] n (fun gk i wr => ∃ (j : Nat) (c' : Cur), j + gk = n ∧ i = .int .i64 (j : Int) ∧ Hid (AA d R w a me wk p o now s gk j wr c'))
  case atStart => exact ⟨0, c, by omega, rfl, HA.out⟩
  case round =>
    clear HA
    obtain ⟨j, c1, hj, rfl, HH⟩ := hrel
    by_cases hlt : j < n
    case neg =>
      have i1 : ¬ ((j : Int) < (n : Int)) := by omega
      obtain rfl : gk = 0 := by omega
      have HE : Hid (Post d R w a wk bV o (.returned (.bool true)) wr) := by
        have hr := HH.out.run
        rw [hr]
        exact ⟨HH.out.kp, rfl, HH.out.lv.mono fun b e => .inl e⟩
      clear HH
      go_wp2
      go_ret
      exact HE.out
    have i1 : (j : Int) < (n : Int) := by omega
    have hkw : IntKind.i64.wrap ((j : Int) + 1) = (j : Int) + 1 := IntWalk.i64_in _ (by omega)
    obtain ⟨gk, rfl⟩ : ∃ g', gk = g' + 1 := ⟨gk - 1, by omega⟩
    obtain ⟨X, q, hX, hq, bX, cX, sX⟩ : ∃ (X : World) (q : Nat), wr.alloc (.cells #[.int .i64 (j : Int)] 3) = X ∧ wr.heap.size = q ∧ Below wr.heap.size wr X ∧ X.cell? ⟨q, 0, none⟩ = some (.int .i64 (j : Int)) ∧ X.heap.size = q + 1 := ⟨_, _, rfl, rfl, below_new _ _, c_new rfl rfl, by simp⟩
    have lX : Lv d (fun b => (R b ∨ b = p) ∨ b = q) X a wk c1 s := HH.out.lv.more bX (fun b e => e.imp id fun e => by omega)
    have pR : p < wr.heap.size := HH.out.lv.lt p (.inr rfl)
    have tX := HH.out.tk.cells (bX.block p pR)
    have HD := Lib.hid (do_touch (f := 81) (cap := #[ptr p, ptr q]) (g := gSaid j) (fun W => rfl) lX (fun hl => saidOf_in (HH.out.lv.fit hl) j) (by
      intro hl w1 FW hWS hR hsz
      exact said1_walk hWS (tX.cells (hR _ (.inl (.inr rfl))).1) (cell_same (hR _ (.inr rfl)).1 cX) (by rw [HN.out]; exact hlt)))
    have HK := Lib.hid (Kp.below (R := fun b => R b ∨ b = p) bX HH.out.lv.lt)
    obtain ⟨t0, t1, t2⟩ := tX
    clear lX cX sX bX
    go_wp2_with fail
    refine HD.out.mono ?_
    clear HD
    rintro e w1 hP
    have hrun := HH.out.run
    rw [tAll, run_tch] at hrun
    cases hr : run (tDo (gSaid j)) c1 s with
    | wait zs st s' =>
      rw [hr] at hP hrun
      obtain ⟨k1, rfl, k2⟩ := hP
      subst hrun
      exact ⟨rfl, HH.out.kp.trans ((HK.out.trans (k1.mono fun b e => .inl e)).mono fun b e => .inl e), rfl, k2.mono fun b e => .inl (.inl e)⟩
    | ret z c2 s2 =>
      rw [hr] at hP hrun
      obtain ⟨k1, rfl, k2⟩ := hP
      have hs2 : s2 = s := by
        rcases run_do hr with ⟨_, _, _, e, _⟩ | ⟨_, _, _, e, _⟩
        · exact e
        · exact e
      subst hs2
      have hrun2 : o = run (if z ≠ now ∧ z ≠ -1 then .ret false else tAll now gk (j + 1)) c2 s2 := hrun
      have HKK : Hid (Kp R w w1) := HH.out.kp.trans ((HK.out.trans (k1.mono fun b e => .inl e)).mono fun b e => .inl e)
      have HL : Hid (Lv d (fun b => R b ∨ b = p) w1 a wk c2 s2) := k2.mono fun b e => .inl e
      have HT : Hid (Tk w1 p a d.W me) := HH.out.tk.cells ((k1.block p (.inl (.inr rfl))).trans (by rw [← hX]; exact Below.heap_alloc _ _ _ pR))
      clear hrun hr k1 k2 HH t0 t1 t2 HK hX
      by_cases hz1 : z = now
      · have hz : ¬ (z ≠ now ∧ z ≠ -1) := fun e => e.1 hz1
        rw [if_neg hz] at hrun2
        have HR := Lib.hid hrun2
        have b1 : (z != now) = false := by simpa using hz1
        clear hrun2 hz
        go_wp2
        go_roundg (gk)
        case measure => omega
        case rel => exact ⟨j + 1, c2, by omega, by go_num, HR.out, HL.out, HKK.out, HT.out⟩
      · have b1 : (z != now) = true := by simpa using hz1
        by_cases hz2 : z = -1
        · have hz : ¬ (z ≠ now ∧ z ≠ -1) := fun e => e.2 hz2
          rw [if_neg hz] at hrun2
          have HR := Lib.hid hrun2
          have b2 : (z != -1) = false := by simpa using hz2
          clear hrun2 hz
          go_wp2
          go_roundg (gk)
          case measure => omega
          case rel => exact ⟨j + 1, c2, by omega, by go_num, HR.out, HL.out, HKK.out, HT.out⟩
        · rw [if_pos ⟨hz1, hz2⟩] at hrun2
          have b2 : (z != -1) = true := by simpa using hz2
          have HE : Hid (Post d R w a wk bV o (.returned (.bool false)) w1) := by rw [hrun2]; exact ⟨HKK.out, rfl, HL.out.mono fun b e => .inl e⟩
          clear hrun2 HL HKK HT
          go_wp2
          go_ret
          exact HE.out
end
end Go.Proofs.Ytfloblofdkemlaa
