/-
  What help's Record comes to within work, touch by touch; a helper's work.
-/
import Derived.Test.YtmhmgdpcibldlaaHr9
import Derived.Test.YtmhmgdpcibldlaaJb8
namespace Go.Proofs.Ytmhmgdpcibldlaa
open Go.ChangeShapes Go.WideShapes Go.ChangeAt Go.RowKit
set_option linter.unusedVariables false
set_option linter.unusedSimpArgs false
set_option maxRecDepth 20000

section
variable {d : Wd} {R R' : Nat → Prop} {w w' w0 : World} {a st ph k me : Nat} {wk : Value} {zs : List Int} {c : Cur} {s : Sig} {n : Int}
theorem Sl.row {B : Nat} {el : TypeId} {A : Option Addr} {m q : Nat} {zs : List Int} (h : Row el B w (.slice A m q) zs) : ∀ ad : Addr, A = some ad → B ≤ ad.block ∧ ad.block < w.heap.size := by
  intro ad e
  subst e
  have := World.ownsRow.lt h ad.block (by simp [Value.ownBlock])
  exact this
set_option maxHeartbeats 4000000 in
theorem record_touch {ns is : List Int} {kp wy od nw : Int} (h : Lv d R w a wk c s) (hr : rcOf s.rs n = ⟨ns, is, kp, wy, od, nw⟩) (hk : 0 ≤ kp) (hl : ns.length = is.length) (hm : ns.length ≤ 20) (hrs : s.rs.length ≤ 1000) :
    Calls Try.prog 54 #[tkV a d.W me, .int .i64 n] w (Post d R w a wk bV (run (tHelp ⟨ns, is, kp, wy, od, nw⟩ n) c s)) := by
  have e3 := mk_fn
  obtain ⟨W, p, hW, hp, bb, tk, hsz⟩ := one_box w a d.W me
  obtain ⟨u, hu⟩ : ∃ u, run (tHelp ⟨ns, is, kp, wy, od, nw⟩ n) c s = u := ⟨_, rfl⟩
  rw [hu]
  have HB : Hid (BS d R (fun b => R b ∨ b = p) w a me wk p s.S.length (c.zs.length + 2) u (tHelp ⟨ns, is, kp, wy, od, nw⟩ n) W c s) := ⟨hu.symm, h.more bb (fun b e => e.imp id fun e => by omega), fun b e => e, Kp.new h bb, tk, rfl, fun _ => Nat.le_refl _⟩
  have HPW : Hid (p + 1 = W.heap.size) := hsz.symm
  generalize s.S.length = L at HB
  generalize c.zs.length + 2 = N at HB
  obtain ⟨F0, FW0, T0, -, hWS, -, -⟩ := HB.out.lv.lv
  have HLk := nxW_rlook hWS hrs n
  rw [hr] at HLk
  have HLk := Lib.hid HLk
  have g1 := hWS.cells.2.1
  obtain ⟨t0, t1, t2⟩ := tk
  clear h bb hu hsz hr hWS hrs
  go_enter Try.func54, Try.ntmps54
  go_wp2_with fail
  (try rw [hW])
  refine HLk.out.mono ?_
  rintro e X ⟨u1, u2, rfl, hr1, hr2, hbX⟩
  clear HLk t0 t1 t2 g1 hW hp
  obtain ⟨A, m, c0, rfl⟩ := hr1.shape
  obtain ⟨B, m', c1, rfl⟩ := hr2.shape
  have hs1 := hr1.sl
  have hs2 := hr2.sl
  obtain rfl : m = ns.length := hs1.len
  obtain rfl : m' = is.length := hs2.len
  have a1 := Sl.row hr1
  have a2 := Sl.row hr2
  have b1 := hbX.size
  obtain ⟨Z, q, hZ, hq, h6, bZ, sZ⟩ : ∃ (Z : World) (q : Nat), X.alloc (.cells #[.slice none 0 0, .slice none 0 0, .int .i64 0, .int .i64 0, .int .i64 0, .int .i64 0] 39) = Z ∧ X.heap.size = q ∧ Six Z q (.slice none 0 0) (.slice none 0 0) 0 0 0 0 ∧ Below X.heap.size X Z ∧ Z.heap.size = q + 1 := ⟨_, _, rfl, rfl, Six.new X rfl _ _ _ _ _ _, below_new _ _, by simp⟩
  obtain ⟨z0, z1, z2, z3, z4, z5⟩ := h6.cells
  obtain ⟨f0, f1, f2, f3, f4, f5⟩ := h6.frees
  obtain ⟨Y, hY⟩ : ∃ Y, put6 Z q (.slice A ns.length c0) (.slice B is.length c1) kp wy od nw = Y := ⟨_, rfl⟩
  have h6Y : Six Y q (.slice A ns.length c0) (.slice B is.length c1) kp wy od nw := by rw [← hY]; exact h6.put
  have bY : Below X.heap.size X Y := by rw [← hY]; exact below_put6 bZ (by omega)
  have sY : Y.heap.size = q + 1 := by rw [← hY]; simp [sZ]
  have bWY : Below W.heap.size W Y := hbX.trans (bY.mono b1)
  have HSN := Lib.hid (hs1.below bY)
  have HSI := Lib.hid (hs2.below bY)
  have HAN : Hid (∀ ad, A = some ad → p ≤ ad.block ∧ ad.block ≤ q) := fun ad e => by have := a1 ad e; have := HPW.out; omega
  have HAI : Hid (∀ ad, B = some ad → p ≤ ad.block ∧ ad.block ≤ q) := fun ad e => by have := a2 ad e; have := HPW.out; omega
  have HX : Hid (p ≤ q) := by show p ≤ q; have := HPW.out; omega
  have HB1 : Hid (BS d R (fun b => R b ∨ p ≤ b ∧ b ≤ q) w a me wk p L N u (tTakes ⟨ns, is, kp, wy, od, nw⟩ n ((ns.zip is).drop 0)) Y c s) := HB.out.more bWY (fun b e => by
    rcases e with e | e
    · exact .inl (.inl e)
    · by_cases e2 : b = p
      · exact .inl (.inr e2)
      · exact .inr (by have := HPW.out; omega)) (fun b e => e.imp id fun e => by have := HX.out; omega)
  have HV1 := Lib.hid h6Y
  have HK1 : Hid (Kp (fun b => R b ∨ p ≤ b ∧ b ≤ q) Y Y) := Kp.refl _ _
  obtain ⟨M, hM⟩ : ∃ M, ns.length = M := ⟨_, rfl⟩
  have hM2 : is.length = M := by omega
  rw [hM] at HSN h6Y HV1 hm hY
  rw [hM2] at HSI h6Y HV1 hY
  (try rw [hM]); (try rw [hM2])
  have HM1 := Lib.hid hM
  have HM2 := Lib.hid hM2
  obtain ⟨x0, x1, x2, x3, x4, x5⟩ := h6Y.cells
  clear hr1 hr2 hs1 hs2 a1 a2 b1 h6 bZ sZ bY sY bWY h6Y HB hbX hl hM hM2
  go_wp2_with fail
  (try rw [hY])
  clear z0 z1 z2 z3 z4 z5 f0 f1 f2 f3 f4 f5 hZ hq hY x0 x1 x2 x3 x4 x5
  go_loopg [26] M (fun gk i wr => ∃ (j : Nat) (c' : Cur) (s' : Sig), j + gk = M ∧ i = .int .i64 (j : Int) ∧ Hid (BS d R (fun b => R b ∨ p ≤ b ∧ b ≤ q) w a me wk p L N u (tTakes ⟨ns, is, kp, wy, od, nw⟩ n ((ns.zip is).drop j)) wr c' s') ∧ Hid (Kp (fun b => R b ∨ p ≤ b ∧ b ≤ q) Y wr))
  case atStart => exact ⟨0, c, s, by omega, rfl, HB1.out, HK1.out⟩
  case round =>
    clear HB1 HK1
    obtain ⟨j, c1', s1, hj, rfl, HH, HK⟩ := hrel
    by_cases hlt : j < M
    case neg =>
      have i1 : ¬ ((j : Int) < (M : Int)) := by omega
      have HB2 : Hid (BS d R (fun b => R b ∨ p ≤ b ∧ b ≤ q) w a me wk p L N u ((tFinish ⟨ns, is, kp, wy, od, nw⟩ n).bind fun _ => .ret true) wr c1' s1) := by
        have hB := HH.out
        rw [List.drop_eq_nil_of_le (by rw [List.length_zip, HM1.out]; omega)] at hB
        exact hB
      have h6 := HV1.out.kp HK.out (.inr ⟨HX.out, Nat.le_refl _⟩)
      obtain ⟨x0, x1, x2, x3, x4, x5⟩ := h6.cells
      obtain ⟨t0, t1, t2⟩ := HB2.out.tk
      have HD := Lib.hid (finish_touch (me := me) (n := n) (A := A) (B := B) (m := M) (c0 := c0) (m' := M) (c1 := c1) (ns := ns) (is := is) (kp := kp) (wy := wy) (od := od) (nw := nw) HB2.out.lv (HSN.out.kp (R := fun b => R b ∨ p ≤ b ∧ b ≤ q) (fun ad e => .inr (HAN.out ad e)) HK.out) (fun ad e => .inr (HAN.out ad e)) (by omega) hk)
      clear HH h6 HK
      go_wp2_with fail
      refine HD.out.mono ?_
      clear HD t0 t1 t2 x0 x1 x2 x3 x4 x5
      intro e w3 hP
      have hT := BS.call (t := tFinish ⟨ns, is, kp, wy, od, nw⟩ n) (K := fun _ => .ret true) (U := bV) (Q := fun _ => True) HB2.out (finish_keeps _ n) (fun _ _ _ _ => trivial) hP
      clear hP
      obtain ⟨v, c2, s2, rfl, -, hB, hKp⟩ | ⟨rfl, hP⟩ := hT
      case inr => exact ⟨rfl, hP⟩
      have HE := Lib.hid (BS.end_ (U := bV) hB)
      clear hB hKp HB2
      go_wp2
      go_ret
      exact HE.out
    have i1 : (j : Int) < (M : Int) := by omega
    have i0 : (0 : Int) ≤ (j : Int) := by omega
    have hkw : IntKind.i64.wrap ((j : Int) + 1) = (j : Int) + 1 := IntWalk.i64_in _ (by omega)
    have hj1 : j < ns.length := by rw [HM1.out]; exact hlt
    have hj2 : j < is.length := by rw [HM2.out]; exact hlt
    obtain ⟨ba, off, rfl, hbl, hc⟩ := (HSN.out.kp (R := fun b => R b ∨ p ≤ b ∧ b ≤ q) (fun ad e => .inr (HAN.out ad e)) HK.out).at_ hj1
    obtain ⟨ba2, off2, rfl, hbl2, hc2⟩ := (HSI.out.kp (R := fun b => R b ∨ p ≤ b ∧ b ≤ q) (fun ad e => .inr (HAI.out ad e)) HK.out).at_ hj2
    obtain ⟨r, hr⟩ : ∃ r, ns[j] = r := ⟨_, rfl⟩
    obtain ⟨o, ho⟩ : ∃ o, is[j] = o := ⟨_, rfl⟩
    rw [hr] at hc
    rw [ho] at hc2
    have hdr : (ns.zip is).drop j = (r, o) :: (ns.zip is).drop (j + 1) := by
      rw [List.drop_eq_getElem_cons (by rw [List.length_zip]; omega), List.getElem_zip, hr, ho]
    have HBj : Hid (BS d R (fun b => R b ∨ p ≤ b ∧ b ≤ q) w a me wk p L N u ((tTake r o n).bind fun b => if b = true then tTakes ⟨ns, is, kp, wy, od, nw⟩ n ((ns.zip is).drop (j + 1)) else tSettle n) wr c1' s1) := by
      have hB := HH.out
      rw [hdr] at hB
      exact hB
    have h6 := HV1.out.kp HK.out (.inr ⟨HX.out, Nat.le_refl _⟩)
    obtain ⟨x0, x1, x2, x3, x4, x5⟩ := h6.cells
    obtain ⟨t0, t1, t2⟩ := HBj.out.tk
    clear HH hr ho hj1 hj2 hdr h6 x0 x2 x3 x4 x5
    go_wp2_with fail
    clear hc
    refine region_T (fun _ => false) (fun w' => w'.cell? ⟨p, 0, none⟩ = some (ptr a) ∧ w'.cell? ⟨p, 1, none⟩ = some (ptr d.W) ∧ w'.cell? ⟨p, 2, none⟩ = some (.int .i64 (me : Int)) ∧ w'.cell? ⟨q, 1, none⟩ = some (.slice (some ⟨ba2, off2, none⟩) M c1) ∧ w'.cell? ⟨ba2, off2 + j, none⟩ = some (.int .i64 o)) (by kernel_rfl) ?_
    obtain ⟨X0, hX0, hbX0⟩ : ∃ X0 : World, wr.drew = X0 ∧ Below wr.heap.size wr X0 := ⟨_, rfl, (Below.refl _ wr).drew⟩
    have HB1 := Lib.hid (HBj.out.below hbX0)
    have hC : X0.cell? ⟨p, 0, none⟩ = some (ptr a) ∧ X0.cell? ⟨p, 1, none⟩ = some (ptr d.W) ∧ X0.cell? ⟨p, 2, none⟩ = some (.int .i64 (me : Int)) ∧ X0.cell? ⟨q, 1, none⟩ = some (.slice (some ⟨ba2, off2, none⟩) M c1) ∧ X0.cell? ⟨ba2, off2 + j, none⟩ = some (.int .i64 o) := ⟨below_read hbX0 t0, below_read hbX0 t1, below_read hbX0 t2, below_read hbX0 x1, below_read hbX0 hc2⟩
    have HK1 : Hid (Kp (fun b => R b ∨ p ≤ b ∧ b ≤ q) Y X0) := HK.out.trans (Kp.below hbX0 HBj.out.lv.lt)
    have hba := HAI.out _ rfl
    rw [hX0]
    clear hX0 HBj HK t0 t1 t2 x1 hc2 hbX0 hbl hbl2
    refine takeW (i := 0) (v := ?_) rfl (by kernel_rfl) (by kernel_rfl) (by kernel_rfl) (by kernel_rfl) (by kernel_rfl) (fun _ _ _ h => h) hC (by rfl) ?_ ?_
    rotate_left
    · intro w hSw; (try dsimp only at hSw); go_simp; try (with_reducible rfl)
    try simp only [Act.put, List.setIfInBounds_toArray, List.set_cons_zero, List.set_cons_succ]
    refine takeW (i := 1) (v := ?_) rfl (by kernel_rfl) (by kernel_rfl) (by kernel_rfl) (by kernel_rfl) (by kernel_rfl) (fun _ _ _ h => h) hC (by rfl) ?_ ?_
    rotate_left
    · intro w hSw; (try dsimp only at hSw); go_simp; try (with_reducible rfl)
    try simp only [Act.put, List.setIfInBounds_toArray, List.set_cons_zero, List.set_cons_succ]
    refine takeW (i := 2) (v := ?_) rfl (by kernel_rfl) (by kernel_rfl) (by kernel_rfl) (by kernel_rfl) (by kernel_rfl) (fun _ _ _ h => h) hC (by rfl) ?_ ?_
    rotate_left
    · intro w hSw; (try dsimp only at hSw); go_simp; try (with_reducible rfl)
    try simp only [Act.put, List.setIfInBounds_toArray, List.set_cons_zero, List.set_cons_succ]
    refine takeW (i := 3) (v := ?_) rfl (by kernel_rfl) (by kernel_rfl) (by kernel_rfl) (by kernel_rfl) (by kernel_rfl) (fun _ _ _ h => h) hC (by rfl) ?_ ?_
    rotate_left
    · intro w hSw; (try dsimp only at hSw); go_simp; try (with_reducible rfl)
    try simp only [Act.put, List.setIfInBounds_toArray, List.set_cons_zero, List.set_cons_succ]
    refine takeW (i := 4) (v := ?_) rfl (by kernel_rfl) (by kernel_rfl) (by kernel_rfl) (by kernel_rfl) (by kernel_rfl) (fun _ _ _ h => h) hC (by rfl) ?_ ?_
    rotate_left
    · intro w hSw; (try dsimp only at hSw); go_simp; try (with_reducible rfl)
    try simp only [Act.put, List.setIfInBounds_toArray, List.set_cons_zero, List.set_cons_succ]
    refine takeW (i := 5) (v := ?_) rfl (by kernel_rfl) (by kernel_rfl) (by kernel_rfl) (by kernel_rfl) (by kernel_rfl) (fun _ _ _ h => h) hC (by rfl) ?_ ?_
    rotate_left
    · intro w hSw; (try dsimp only at hSw); go_simp; try (with_reducible rfl)
    try simp only [Act.put, List.setIfInBounds_toArray, List.set_cons_zero, List.set_cons_succ]
    refine takeW (i := 6) (v := ?_) rfl (by kernel_rfl) (by kernel_rfl) (by kernel_rfl) (by kernel_rfl) (by kernel_rfl) (fun _ _ _ h => h) hC (by rfl) ?_ ?_
    rotate_left
    · intro w hSw; (try dsimp only at hSw); go_simp; try (with_reducible rfl)
    try simp only [Act.put, List.setIfInBounds_toArray, List.set_cons_zero, List.set_cons_succ]
    refine takeW (i := 7) (v := ?_) rfl (by kernel_rfl) (by kernel_rfl) (by kernel_rfl) (by kernel_rfl) (by kernel_rfl) (fun _ _ _ h => h) hC (by rfl) ?_ ?_
    rotate_left
    · intro w hSw; (try dsimp only at hSw); go_simp; try (with_reducible rfl)
    try simp only [Act.put, List.setIfInBounds_toArray, List.set_cons_zero, List.set_cons_succ]
    refine oneT (i := 8) (by kernel_rfl) rfl (by rfl) (fun K hK => ?_)
    go_simp
    refine (take_touch (me := me) (n := n) (r := r) (o := o) HB1.out.lv).mono ?_
    intro e w2 hP
    have hT := BS.call (t := tTake r o n) (K := fun b => if b = true then tTakes ⟨ns, is, kp, wy, od, nw⟩ n ((ns.zip is).drop (j + 1)) else tSettle n) (U := bV) (Q := fun _ => True) HB1.out (take_keeps r o n) (fun _ _ _ _ => trivial) hP
    clear hP
    obtain ⟨v, c3, s3, rfl, -, hB, hKp⟩ | ⟨rfl, hP⟩ := hT
    case inr => exact ⟨rfl, hP⟩
    have hC2 : w2.cell? ⟨p, 0, none⟩ = some (ptr a) ∧ w2.cell? ⟨p, 1, none⟩ = some (ptr d.W) ∧ w2.cell? ⟨p, 2, none⟩ = some (.int .i64 (me : Int)) ∧ w2.cell? ⟨q, 1, none⟩ = some (.slice (some ⟨ba2, off2, none⟩) M c1) ∧ w2.cell? ⟨ba2, off2 + j, none⟩ = some (.int .i64 o) := ⟨hB.tk.c0, hB.tk.c1, hB.tk.c2, hKp.read (.inr ⟨HX.out, Nat.le_refl _⟩) hC.2.2.2.1, hKp.read (.inr hba) hC.2.2.2.2⟩
    refine hK.out _ _ (fun _ => hC2) ?_
    have HB2 := Lib.hid hB
    have HK2 : Hid (Kp (fun b => R b ∨ p ≤ b ∧ b ≤ q) Y w2) := HK1.out.trans hKp
    clear hK K hC hB hKp HB1 HK1
    have hC := hC2
    clear hC2
    try simp only [Act.put, List.setIfInBounds_toArray, List.set_cons_zero, List.set_cons_succ]
    refine oneT (i := 9) (by kernel_rfl) rfl (by rfl) (fun K hK => ?_)
    go_simp
    refine hK.out _ _ (fun _ => hC) ?_
    clear hK K
    try simp only [Act.put, List.setIfInBounds_toArray, List.set_cons_zero, List.set_cons_succ]
    refine doneT (by kernel_rfl) ?_
    obtain ⟨t0, t1, t2, -, -⟩ := hC
    cases v with
    | true =>
      have HB3 : Hid (BS d R (fun b => R b ∨ p ≤ b ∧ b ≤ q) w a me wk p L N u (tTakes ⟨ns, is, kp, wy, od, nw⟩ n ((ns.zip is).drop (j + 1))) w2 c3 s3) := HB2.out
      clear HB2 t0 t1 t2
      go_wp2
      go_roundg (gk - 1)
      case measure => omega
      case rel => exact ⟨j + 1, c3, s3, by omega, by go_num, HB3.out, HK2.out⟩
    | false =>
      have HB3 : Hid (BS d R (fun b => R b ∨ p ≤ b ∧ b ≤ q) w a me wk p L N u (tSettle n) w2 c3 s3) := HB2.out
      have HD := Lib.hid (settle_touch (me := me) (n := n) HB3.out.lv)
      clear HB2 HK2
      go_wp2_with fail
      refine HD.out.mono ?_
      clear HD t0 t1 t2
      intro e w4 hP
      have hP2 := HB3.out.last hP
      cases hr : run (tSettle n) c3 s3 with
      | wait zs st s' =>
        rw [hr] at hP
        obtain ⟨-, rfl, -⟩ := hP
        exact ⟨rfl, hP2⟩
      | ret z c' s' =>
        rw [hr] at hP
        obtain ⟨-, rfl, -⟩ := hP
        have HE := Lib.hid hP2
        clear hP2 hr
        go_wp2
        go_ret
        exact HE.out
end
end Go.Proofs.Ytmhmgdpcibldlaa
