/-
  LlxStill's reader: what its work comes to.
-/
import Derived.Test.YtoeilogakfggfaaZc10
import Derived.StillTailTactics
namespace Go.Proofs.Ytoeilogakfggfaa
open Go.ChangeShapes Go.WideShapes Go.ChangeAt Go.RowKit
set_option linter.unusedVariables false
set_option linter.unusedSimpArgs false
set_option maxRecDepth 20000

theorem rets_loads3 {l : List (Int × Nd)} (hl : ∀ x ∈ l, x.2.zs.length = 2) (acc : List Sn) (ha : ∀ y ∈ acc, y.ws.length = 2) : rets (fun x => ∀ y ∈ x.1, y.ws.length = 2) (tLoads acc l) := by
  induction l generalizing acc with
  | nil => exact ha
  | cons x l ih =>
    refine rets_bind (rets_load x.1 x.2) fun y hy => ?_
    split
    · rename_i h0
      refine ih (fun z hz => hl z (List.mem_cons_of_mem _ hz)) _ fun z hz => ?_
      rcases List.mem_append.1 hz with e | e
      · exact ha z e
      · rw [List.mem_singleton.1 e, hy.2.2 h0]; exact hl x (List.mem_cons_self ..)
    · exact fun z hz => by cases hz
theorem row_two {w : World} {v : Value} {zs : List Int} (h : Row rfT 0 w v zs) (hl : zs.length = 2) : ∃ g c, v = .slice (some ⟨g, 0, none⟩) 2 c ∧ w.cell? ⟨g, 0, none⟩ = some (.int .i64 (zs.getD 0 0)) := by
  have h0 : World.ownsRow w 0 rfT 1 v zs.length (ints zs) := h
  rcases h0.2 with ⟨e, h1⟩ | ⟨g, cap, cur, e, _⟩
  · omega
  · subst e
    have hc := World.ownsRow.cellAt h0 0 (by simp [ints]; omega)
    match zs, hl with
    | [x, y], _ => exact ⟨g, _, rfl, hc⟩
section
variable {nds : List (Int × Nd)} {d : Wd} {R : Nat → Prop} {w : World} {a me : Nat} {wk : Value} {c : Cur} {s : Sig}
theorem two_num (w : World) (z y : Int) : ∃ (X : World) (b : Nat), w.alloc (.cells #[.int .i64 z, .int .i64 y] i6T) = X ∧ w.heap.size = b ∧ Below w.heap.size w X ∧ Sl X (some ⟨b, 0, none⟩) 2 2 [z, y] :=
  ⟨_, _, rfl, rfl, below_new _ _, sl_two9 (c_new rfl rfl) (c_new rfl rfl)⟩
set_option maxHeartbeats 8000000 in
theorem rd1_walk {A : Option Addr} {m c0 b1 : Nat} (hx : ∀ x ∈ twoN, x ∈ nds ∧ x.2.small) (hs : Sl w A m c0 (twoN.map Prod.fst)) (hA : ∀ ad, A = some ad → R ad.block)
    (hR : R b1) (h1 : w.cell? ⟨b1, 0, none⟩ = some (.slice A m c0)) (h : Lv d R w a wk c s) (hP : Stt nds 40 s) :
    Calls Try.prog 24 #[tkV a d.W me, ptr b1] w (PostW d R w a wk idO (run (tRd 12) c s)) := by
  obtain ⟨W, p, hW, hp, bb, tk, hsz⟩ := one_box w a d.W me
  obtain ⟨o, ho⟩ : ∃ o, run (tRd 12) c s = o := ⟨_, rfl⟩
  rw [ho]
  have HB : Hid (BT (Stt nds 40) d R (fun b => R b ∨ b = p) w a me wk p o (tRd 12) W c s) := by
    show BT _ _ _ _ _ _ _ _ _ _ _ _ _ _
    rw [← ho]
    exact BT.begin_ h bb (fun b e => e.imp id fun e => by omega) (fun b e => e) tk hP
  have HX := Lib.hid hx
  have HC : Hid (∀ w', Kp R w w' → w'.cell? ⟨b1, 0, none⟩ = some (.slice A m c0) ∧ Sl w' A m c0 (twoN.map Prod.fst)) := fun w' hk => ⟨hk.read hR h1, hs.keepAt fun ad e _ => hk.block _ (hA ad e)⟩
  have HAD := Lib.hid hA
  clear h bb hsz hP ho hs hA h1 hx hR tk
  go_enter Try.func24, Try.ntmps24
  go_wp2_with fail
  (try rw [hW])
  go_loopg [6] 12 (fun gk iv wr => ∃ (j : Nat) (c' : Cur) (s' : Sig), j + gk = 12 ∧ iv = .int .i64 (j : Int) ∧ Hid (BT (Stt nds 40) d R (fun b => R b ∨ b = p) w a me wk p o (tRd gk) wr c' s'))
  case atStart => exact ⟨0, c, s, by omega, rfl, HB.out⟩
  case round =>
    clear HB
    obtain ⟨j, c2, s2, hj, rfl, HH⟩ := hrel
    by_cases hlt : j < 12
    case neg =>
      have i1 : ¬ ((j : Int) < 12) := by omega
      obtain rfl : gk = 0 := by omega
      have HE : Hid (PostW d R w a wk idO o (.returned (.slice none 0 0)) wr) := HH.out.postW (v := []) (Below.refl _ _) (Sl.nil _) (by simp)
      clear HH
      go_wp2
      go_ret
      exact HE.out
    have i1 : (j : Int) < 12 := by omega
    have i0 : (0 : Int) ≤ (j : Int) := by omega
    have hkw : IntKind.i64.wrap ((j : Int) + 1) = (j : Int) + 1 := IntWalk.i64_in _ (by omega)
    obtain ⟨k, rfl⟩ : ∃ k, gk = k + 1 := ⟨gk - 1, by omega⟩
    obtain ⟨g1, g2⟩ := HC.out wr HH.out.kp
    have HD := Lib.hid (loads_touch (me := me) (R := fun b => R b ∨ b = p) (M := 40) (by omega) HX.out (by simp) g2 (fun ad e => .inl (HAD.out ad e)) HH.out.lv HH.out.inv)
    obtain ⟨t0, t1, t2⟩ := HH.out.tk
    clear g2
    go_wp2_with fail
    refine HD.out.mono ?_
    clear HD t0 t1 t2 g1
    intro e w1 hPm
    rcases BT.callM (P := Stt nds 40) (t := tLoads [] twoN) (o := o) (K := fun y : List Sn × Bool => (if y.2 = true then (tStill y.1).bind fun b => if b = true then .ret [fstW y.1 0, fstW y.1 1] else tRd k else tRd k : Tr (List Int))) HH.out (run_kpL (kl_loads [] twoN)) hPm with ⟨⟨l, ok⟩, c3, s3, v, Y, rfl, hrun, ⟨u, hv, hu⟩, hB, hKp, hYn⟩ | hx
    case inr => obtain ⟨rfl, hx⟩ := hx; exact ⟨rfl, Wts.postW ⟨rfl, hx⟩⟩
    have hlq : ok = true → l.length = ([] : List Sn).length + twoN.length := run_rets (Q := fun x : List Sn × Bool => x.2 = true → x.1.length = ([] : List Sn).length + twoN.length) (rets_loads2 [] twoN) hrun
    have hlw : ∀ y ∈ l, y.ws.length = 2 := run_rets (Q := fun x : List Sn × Bool => ∀ y ∈ x.1, y.ws.length = 2) (rets_loads3 (fun x hx => by simp at hx; rcases hx with rfl | rfl <;> rfl) [] (fun y hy => by cases hy)) hrun
    have HLQ := Lib.hid hlq
    have HLW := Lib.hid hlw
    have hv : v = .tuple #[u, .bool ok] := hv
    have hu : SnL l Y w1 u := hu
    obtain ⟨A1, c1, rfl, -⟩ := hu.shape
    subst hv
    clear hPm HH hrun hKp hlq hlw
    cases ok with
    | false =>
      have HN : Hid (BT (Stt nds 40) d R (fun b => R b ∨ b = p) w a me wk p o (tRd k) w1 c3 s3) := hB.mono (fun b e => .inl e) fun b e => e
      clear hB hu hYn
      go_wp2
      go_roundg k
      case measure => omega
      case rel => exact ⟨j + 1, c3, s3, by omega, by go_num, HN.out⟩
    | true =>
      have hll : l.length = 2 := by have := HLQ.out rfl; simpa using this
      obtain ⟨x, y, rfl⟩ : ∃ x y, l = [x, y] := by
        match l, hll with
        | [x, y], _ => exact ⟨x, y, rfl⟩
      have hux := hu.at_ (i := 0) (x := x) rfl
      have huy := hu.at_ (i := 1) (x := y) rfl
      obtain ⟨g, -, -, -, wv, rfl, -, hYg, -, -, -, hwr, hwo, -, -, -, -, -, -, -, y7⟩ := hux
      obtain ⟨g', -, -, -, wv', e0, -, -, -, -, -, hwr', hwo', -, -, -, -, -, -, -, z7⟩ := huy
      injection e0 with e0; injection e0 with e0; subst e0
      obtain ⟨gx, qx, rfl, cx⟩ := row_two hwr (HLW.out x (by simp))
      obtain ⟨gy, qy, rfl, cy⟩ := row_two hwr' (HLW.out y (by simp))
      have hYx : Y gx := hwo gx rfl
      have hYy : Y gy := hwo' gy rfl
      have HB2 : Hid (BT (Stt nds 40) d R (fun b => (R b ∨ b = p) ∨ Y b) w a me wk p o ((tStill [x, y]).bind fun b => if b = true then .ret [fstW [x, y] 0, fstW [x, y] 1] else tRd k) w1 c3 s3) := hB
      have HD := Lib.hid (still_touch (me := me) (R := fun b => (R b ∨ b = p) ∨ Y b) hu (fun b e => .inr e) (by simp) HB2.out.lv HB2.out.inv)
      have HCS : Hid (∀ w', Kp (fun b => (R b ∨ b = p) ∨ Y b) w1 w' → w'.cell? ⟨g, 7, none⟩ = some (.slice (some ⟨gx, 0, none⟩) 2 qx) ∧ w'.cell? ⟨g, 15, none⟩ = some (.slice (some ⟨gy, 0, none⟩) 2 qy) ∧ w'.cell? ⟨gx, 0, none⟩ = some (.int .i64 (fstW [x, y] 0)) ∧ w'.cell? ⟨gy, 0, none⟩ = some (.int .i64 (fstW [x, y] 1))) := fun w' hk =>
        ⟨hk.read (.inr hYg) y7, hk.read (.inr hYg) z7, hk.read (.inr hYx) cx, hk.read (.inr hYy) cy⟩
      obtain ⟨t0, t1, t2⟩ := HB2.out.tk
      clear hB hu hYn hwr hwr' hwo hwo' y7 z7 cx cy hYg hYx hYy hll
      simp only [List.length_cons, List.length_nil]
      go_wp2_with fail
      refine HD.out.mono ?_
      clear HD t0 t1 t2
      intro e w2 hP
      rcases BT.call (K := fun b => (if b = true then .ret [fstW [x, y] 0, fstW [x, y] 1] else tRd k : Tr (List Int))) HB2.out (run_kpL (kl_still [x, y])) hP with ⟨b, c4, s4, rfl, -, hB, hKp⟩ | hx
      case inr => obtain ⟨rfl, hx⟩ := hx; exact ⟨rfl, Wts.postW ⟨rfl, hx⟩⟩
      obtain ⟨k1, k2, k3, k4⟩ := HCS.out w2 hKp
      clear hP HB2 hKp HCS
      cases b with
      | false =>
        have HN : Hid (BT (Stt nds 40) d R (fun b => R b ∨ b = p) w a me wk p o (tRd k) w2 c4 s4) := hB.mono (fun b e => .inl e) fun b e => e
        clear hB k1 k2 k3 k4
        go_wp2
        go_roundg k
        case measure => omega
        case rel => exact ⟨j + 1, c4, s4, by omega, by go_num, HN.out⟩
      | true =>
        obtain ⟨n0, hn0⟩ : ∃ n, fstW [x, y] 0 = n := ⟨_, rfl⟩
        obtain ⟨n1, hn1⟩ : ∃ n, fstW [x, y] 1 = n := ⟨_, rfl⟩
        rw [hn0, hn1] at hB
        rw [hn0] at k3
        rw [hn1] at k4
        have HB3 : Hid (BT (Stt nds 40) d R (fun b => (R b ∨ b = p) ∨ Y b) w a me wk p o (.ret [n0, n1]) w2 c4 s4) := hB
        clear hB hn0 hn1
        go_upto_region 5 with fail
        go_still_tail 12, (by kernel_rfl)
        change wpList _ _ _ _ _ w2.drew
        obtain ⟨W0, hW0, b0⟩ : ∃ W0 : World, w2.drew = W0 ∧ Below w2.heap.size w2 W0 := ⟨_, rfl, (Below.refl _ w2).drew⟩
        rw [hW0]
        obtain ⟨Z, b, hZ, hb, bZ, sZ⟩ := two_num W0 n0 n1
        have HE : Hid (PostW d R w a wk idO o (.returned (.slice (some ⟨b, 0, none⟩) 2 2)) Z) := HB3.out.postW (b0.trans (bZ.mono b0.size)) sZ (by simp)
        clear k1 k2 k3 k4 b0 bZ sZ hW0 HB3
        go_wp2
        (try rw [hZ]); (try rw [hb])
        go_ret
        exact HE.out
end
end Go.Proofs.Ytoeilogakfggfaa
