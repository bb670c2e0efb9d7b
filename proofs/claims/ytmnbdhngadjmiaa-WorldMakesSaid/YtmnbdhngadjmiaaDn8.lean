/-
  What world's Drop and Leave come to within work.
-/
import Derived.Test.YtmnbdhngadjmiaaDl8
namespace Go.Proofs.Ytmnbdhngadjmiaa
open Go.ChangeShapes Go.WideShapes Go.ChangeAt Go.RowKit
set_option linter.unusedVariables false
set_option linter.unusedSimpArgs false
set_option maxRecDepth 20000

section
variable {d : Wd} {R R' FW : Nat → Prop} {w w' w0 w1 wr : World} {a st ph k me p L N : Nat} {wk : Value} {zs : List Int} {c : Cur} {s : Sig} {n : Int} {α : Type} {X X' : Nat → Prop} {o : Out α}
theorem BS.less {t : Tr α} (h : BS d R X w a me wk p L N o t wr c s) (hs : ∀ b, X' b → X b) (hr : ∀ b, R b ∨ b = p → X' b) : BS d R X' w a me wk p L N o t wr c s := ⟨h.rn, h.lv.mono hs, hr, h.kp, h.tk, h.len, h.fu⟩
/-- A slice that stays. -/
theorem Sl.kp {A : Option Addr} {m q : Nat} {rs : List Int} (h : Sl w A m q rs) (hA : ∀ ad, A = some ad → R ad.block) (hk : Kp R w w') : Sl w' A m q rs := h.keepAt fun ad e _ => hk.block _ (hA ad e)
theorem gFree_len (r : Int) (s : Sig) : (gFree r s).2.S = s.S := rfl
set_option maxHeartbeats 1000000 in
theorem drop_touch {A : Option Addr} {m q : Nat} {rs : List Int} (h : Lv d R w a wk c s) (hs : Sl w A m q rs) (hA : ∀ ad, A = some ad → R ad.block) (hm : m ≤ 1000) :
    Calls Try.prog 39 #[tkV a d.W me, .slice A m q] w (Post d R w a wk uV (run (tDrop rs) c s)) := by
  have e3 := mk_fn
  obtain ⟨W, p, hW, hp, bb, tk, hsz⟩ := one_box w a d.W me
  obtain ⟨o, ho⟩ : ∃ o, run (tDrop rs) c s = o := ⟨_, rfl⟩
  rw [ho]
  have HB : Hid (BS d R (fun b => R b ∨ b = p) w a me wk p s.S.length (c.zs.length + 2) o (tDrop (rs.drop 0)) W c s) := ⟨ho.symm, h.more bb (fun b e => e.imp id fun e => by omega), fun b e => e, Kp.new h bb, tk, rfl, fun _ => Nat.le_refl _⟩
  generalize s.S.length = L at HB
  generalize c.zs.length + 2 = N at HB
  have HSL := Lib.hid hs
  have HAD := Lib.hid hA
  have hml := Lib.hid hs.len
  obtain ⟨t0, t1, t2⟩ := tk
  clear h bb ho hsz hs hA
  go_enter Try.func39, Try.ntmps39
  go_wp2_with fail
  clear hW hp t0 t1 t2
  go_loopg [11] m (fun gk i wr => ∃ (j : Nat) (c' : Cur) (s' : Sig), j + gk = m ∧ i = .int .i64 (j : Int) ∧ Hid (BS d R (fun b => R b ∨ b = p) w a me wk p L N o (tDrop (rs.drop j)) wr c' s'))
  case atStart => exact ⟨0, c, s, by omega, rfl, HB.out⟩
  case round =>
    clear HB
    obtain ⟨j, c1, s1, hj, rfl, HH⟩ := hrel
    by_cases hlt : j < m
    case neg =>
      have i1 : ¬ ((j : Int) < (m : Int)) := by omega
      have HE : Hid (Post d R w a wk uV o (.returned (.tuple #[])) wr) := by
        have hB := HH.out
        rw [List.drop_eq_nil_of_le (by rw [← hml.out]; omega)] at hB
        exact hB.end_ (U := uV)
      clear HH
      go_wp2
      ((try simp only [Exit.inBlock, Exit.then]); refine bodyPost_end (results_none rfl _ _ _) rfl ?_)
      exact HE.out
    have i1 : (j : Int) < (m : Int) := by omega
    have i0 : (0 : Int) ≤ (j : Int) := by omega
    have hkw : IntKind.i64.wrap ((j : Int) + 1) = (j : Int) + 1 := IntWalk.i64_in _ (by omega)
    have hjl : j < rs.length := by rw [← hml.out]; exact hlt
    obtain ⟨b, off, rfl, hbl, hc⟩ := (HSL.out.kp HAD.out HH.out.kp).at_ hjl
    obtain ⟨r, hr⟩ : ∃ r, rs[j] = r := ⟨_, rfl⟩
    rw [hr] at hc
    have hdr : rs.drop j = r :: rs.drop (j + 1) := by rw [List.drop_eq_getElem_cons hjl, hr]
    obtain ⟨Y, y, hY, hy, bY, vY, sY⟩ : ∃ (Y : World) (y : Nat), wr.alloc (.cells #[.int .i64 r] 30) = Y ∧ wr.heap.size = y ∧ Below wr.heap.size wr Y ∧ Y.cell? ⟨y, 0, none⟩ = some (.int .i64 r) ∧ Y.heap.size = y + 1 := ⟨_, _, rfl, rfl, below_new _ _, c_new rfl rfl, by simp⟩
    have HB2 : Hid (BS d R (fun b => (R b ∨ b = p) ∨ b = y) w a me wk p L N o (tDrop (rs.drop j)) Y c1 s1) := HH.out.more bY (fun b e => e.imp id fun e => by omega) (fun b e => .inl e)
    clear HH hr hjl bY sY
    by_cases hr0 : r = 0
    · have hrb : (r != 0) = false := by simpa using hr0
      have HB3 : Hid (BS d R (fun b => R b ∨ b = p) w a me wk p L N o (tDrop (rs.drop (j + 1))) Y c1 s1) := by
        have hB := HB2.out.less (X' := fun b => R b ∨ b = p) (fun b e => .inl e) (fun b e => e)
        rw [hdr] at hB
        simp only [tDrop, if_pos hr0] at hB
        exact hB
      clear HB2 hdr hr0
      go_wp2
      go_roundg (gk - 1)
      case measure => omega
      case rel => exact ⟨j + 1, c1, s1, by omega, by go_num, HB3.out⟩
    · have hrb : (r != 0) = true := by simpa using hr0
      have HB3 : Hid (BS d R (fun b => (R b ∨ b = p) ∨ b = y) w a me wk p L N o (.tch (gFree r) fun _ => tDrop (rs.drop (j + 1))) Y c1 s1) := by
        have hB := HB2.out
        rw [hdr] at hB
        simp only [tDrop, if_neg hr0] at hB
        exact hB
      obtain ⟨t0, t1, t2⟩ := HB3.out.tk
      have HD := Lib.hid (ask_touch (f := 69) (cap := #[ptr p, ptr y]) (g := gFree r) (fun W => rfl) HB3.out.lv (fun _ => free_01) (by
        intro hl w1 FW hWS hR hsz
        exact drop1_walk hWS (HB3.out.lv.fit hl) (HB3.out.tk.cells (hR _ (.inl (.inr rfl))).1) (cell_same (hR _ (.inr rfl)).1 vY)))
      clear HB2 hdr
      go_wp2_with fail
      refine HD.out.mono ?_
      clear HD t0 t1 t2 hc vY
      intro e w3 hP
      have hT := BS.call (t := .tch (gFree r) fun y => .ret (y != 0)) (K := fun _ : Bool => tDrop (rs.drop (j + 1))) (U := uV) (Q := fun _ => True) HB3.out ⟨fun s e => e, fun _ => trivial⟩ (fun _ _ _ _ => trivial) hP
      clear hP
      obtain ⟨v, c2, s2, rfl, -, hB, hKp⟩ | ⟨rfl, hP⟩ := hT
      case inr => exact ⟨rfl, hP⟩
      have HB4 := Lib.hid (hB.less (X' := fun b => R b ∨ b = p) (fun b e => .inl e) (fun b e => e))
      clear HB3 hB hKp
      go_wp2
      go_roundg (gk - 1)
      case measure => omega
      case rel => exact ⟨j + 1, c2, s2, by omega, by go_num, HB4.out⟩
end

section
variable {d : Wd} {R R' FW : Nat → Prop} {w w' w0 w1 wr : World} {a st ph k me p L N : Nat} {wk : Value} {zs : List Int} {c : Cur} {s : Sig} {n : Int} {X X' : Nat → Prop} {o : Out Unit}
def kL (me : Nat) (r : Int) (l : List Int) (n : Int) : Tr Unit := .tch (gLeave me r n) fun _ => tLeave me l
theorem gLeave_len (i : Nat) (r n : Int) (s : Sig) : (gLeave i r n s).2.S.length = s.S.length := by
  simp only [gLeave]
  split <;> simp
/-- Where Leave is, between its two touches. -/
structure LV (d : Wd) (R : Nat → Prop) (w : World) (a me : Nat) (wk : Value) (p y q L N : Nat) (o : Out Unit) (t : Tr Unit) (r z : Int) (wr : World) (c : Cur) (s : Sig) : Prop where
  bs : BS d R (fun b => ((R b ∨ b = p) ∨ b = y) ∨ b = q) w a me wk p L N o t wr c s
  vy : wr.cell? ⟨y, 0, none⟩ = some (.int .i64 r)
  vq : wr.cell? ⟨q, 0, none⟩ = some (.int .i64 z)
set_option maxHeartbeats 4000000 in
theorem leave_touch {A : Option Addr} {m q0 : Nat} {rs : List Int} (h : Lv d R w a wk c s) (hi : me < s.S.length) (hs : Sl w A m q0 rs) (hA : ∀ ad, A = some ad → R ad.block) (hm : m ≤ 1000) :
    Calls Try.prog 41 #[tkV a d.W me, .slice A m q0] w (Post d R w a wk uV (run (tLeave me rs) c s)) := by
  have e3 := mk_fn
  obtain ⟨W, p, hW, hp, bb, tk, hsz⟩ := one_box w a d.W me
  obtain ⟨o, ho⟩ : ∃ o, run (tLeave me rs) c s = o := ⟨_, rfl⟩
  rw [ho]
  have HB : Hid (BS d R (fun b => R b ∨ b = p) w a me wk p s.S.length (c.zs.length + 2) o (tLeave me (rs.drop 0)) W c s) := ⟨ho.symm, h.more bb (fun b e => e.imp id fun e => by omega), fun b e => e, Kp.new h bb, tk, rfl, fun _ => Nat.le_refl _⟩
  generalize s.S.length = L at HB hi
  generalize c.zs.length + 2 = N at HB
  have HSL := Lib.hid hs
  have HAD := Lib.hid hA
  have hml := Lib.hid hs.len
  have HRL : Hid (∀ b, R b → b < w.heap.size) := h.lt
  obtain ⟨t0, t1, t2⟩ := tk
  clear h bb ho hsz hs hA
  go_enter Try.func41, Try.ntmps41
  go_wp2_with fail
  clear hW hp t0 t1 t2
  go_loopg [12] m (fun gk i wr => ∃ (j : Nat) (c' : Cur) (s' : Sig), j + gk = m ∧ i = .int .i64 (j : Int) ∧ Hid (BS d R (fun b => R b ∨ b = p) w a me wk p L N o (tLeave me (rs.drop j)) wr c' s'))
  case atStart => exact ⟨0, c, s, by omega, rfl, HB.out⟩
  case round =>
    clear HB
    obtain ⟨j, c1, s1, hj, rfl, HH⟩ := hrel
    by_cases hlt : j < m
    case neg =>
      have i1 : ¬ ((j : Int) < (m : Int)) := by omega
      have HE : Hid (Post d R w a wk uV o (.returned (.tuple #[])) wr) := by
        have hB := HH.out
        rw [List.drop_eq_nil_of_le (by rw [← hml.out]; omega)] at hB
        exact hB.end_ (U := uV)
      clear HH
      go_wp2
      ((try simp only [Exit.inBlock, Exit.then]); refine bodyPost_end (results_none rfl _ _ _) rfl ?_)
      exact HE.out
    have i1 : (j : Int) < (m : Int) := by omega
    have i0 : (0 : Int) ≤ (j : Int) := by omega
    have hkw : IntKind.i64.wrap ((j : Int) + 1) = (j : Int) + 1 := IntWalk.i64_in _ (by omega)
    have hjl : j < rs.length := by rw [← hml.out]; exact hlt
    obtain ⟨b, off, rfl, hbl, hc⟩ := (HSL.out.kp HAD.out HH.out.kp).at_ hjl
    obtain ⟨r, hr⟩ : ∃ r, rs[j] = r := ⟨_, rfl⟩
    rw [hr] at hc
    have hdr : rs.drop j = r :: rs.drop (j + 1) := by rw [List.drop_eq_getElem_cons hjl, hr]
    have HBj : Hid (BS d R (fun b => R b ∨ b = p) w a me wk p L N o (.tch gNow (kL me r (rs.drop (j + 1)))) wr c1 s1) := by
      have hB := HH.out
      rw [hdr] at hB
      exact hB
    obtain ⟨Y0, y, hY0, hy, zY⟩ : ∃ (Y0 : World) (y : Nat), wr.alloc (.cells #[.int .i64 0] 30) = Y0 ∧ wr.heap.size = y ∧ Y0.heap[y]? = some (.cells #[.int .i64 0] 30 (0, 0)) := ⟨_, _, rfl, rfl, heap_alloc_new _ _⟩
    have zc := num_cell zY
    have zf : Y0.frozen? ⟨y, 0, none⟩ = false := frozen_of_row Y0 y 0 _ _ zY
    obtain ⟨Y, hY⟩ : ∃ Y, Y0.setCell ⟨y, 0, none⟩ (.int .i64 r) = Y := ⟨_, rfl⟩
    have bY : Below wr.heap.size wr Y := by
      rw [← hY, ← hY0]
      exact (below_new wr _).trans ((Only.set (· = y) _ (p := ⟨y, 0, none⟩) rfl _).below (fun b e => by omega) (by simp))
    have sY : Y.heap.size = y + 1 := by rw [← hY, ← hY0]; simp; omega
    have vY : Y.cell? ⟨y, 0, none⟩ = some (.int .i64 r) := num_cell (t := 30) (by rw [← hY]; exact heap_setCell_same Y0 y 0 _ _ _ zY)
    have HB2 : Hid (BS d R (fun b => (R b ∨ b = p) ∨ b = y) w a me wk p L N o (.tch gNow (kL me r (rs.drop (j + 1)))) Y c1 s1) := HBj.out.more bY (fun b e => e.imp id fun e => by omega) (fun b e => .inl e)
    have hyw : w.heap.size ≤ y := by rw [← hy]; exact HH.out.kp.size
    have hyp : y ≠ p := by have := HH.out.lv.lt p (.inr rfl); omega
    generalize hK1 : kL me r (rs.drop (j + 1)) = K1 at *
    have HK1 := Lib.hid hK1
    clear HH hr hjl bY HBj hdr zY hK1
    go_upto_region 5 with fail
    clear hc zc zf hY hY0
    go_cut [6] (fun v wx => ∃ (q : Nat) (z : Int) (c' : Cur) (s' : Sig), v = ptr q ∧ Hid (in64 z ∧ LV d R w a me wk p y q L N o (K1 z) r z wx c' s'))
    case first =>
      refine region_T (fun k => k == 8 || k == 10) (fun w' => w'.cell? ⟨p, 0, none⟩ = some (ptr a) ∧ w'.cell? ⟨p, 1, none⟩ = some (ptr d.W) ∧ w'.cell? ⟨d.W, 2, none⟩ = some (ptr d.E)) (by kernel_rfl) ?_
      obtain ⟨X0, hX0, hbX0⟩ : ∃ X0 : World, Y.drew = X0 ∧ Below Y.heap.size Y X0 := ⟨_, rfl, (Below.refl _ Y).drew⟩
      have HB1 := Lib.hid (HB2.out.below hbX0)
      have hC : X0.cell? ⟨p, 0, none⟩ = some (ptr a) ∧ X0.cell? ⟨p, 1, none⟩ = some (ptr d.W) ∧ X0.cell? ⟨d.W, 2, none⟩ = some (ptr d.E) := ⟨HB1.out.tk.c0, HB1.out.tk.c1, HB1.out.wcell.1⟩
      have vX : X0.cell? ⟨y, 0, none⟩ = some (.int .i64 r) := below_read hbX0 vY
      rw [hX0]
      clear hX0
      refine takeW (i := 0) (v := ?_) rfl (by kernel_rfl) (by kernel_rfl) (by kernel_rfl) (by kernel_rfl) (by kernel_rfl) (fun _ _ _ h => h) hC (by rfl) ?_ ?_
      rotate_left
      · intro w hSw; (try dsimp only at hSw); go_simp; try (with_reducible rfl)
      try simp only [Act.put, List.setIfInBounds_toArray, List.set_cons_zero, List.set_cons_succ]
      refine takeW (i := 1) (v := ?_) rfl (by kernel_rfl) (by kernel_rfl) (by kernel_rfl) (by kernel_rfl) (by kernel_rfl) (fun _ _ _ h => h) hC (by rfl) ?_ ?_
      rotate_left
      · intro w hSw; (try dsimp only at hSw); go_simp; try (with_reducible rfl)
      try simp only [Act.put, List.setIfInBounds_toArray, List.set_cons_zero, List.set_cons_succ]
      refine takeW (i := 2) (v := ?_) rfl (by kernel_rfl) (by kernel_rfl) (by kernel_rfl) (by kernel_rfl) (by kernel_rfl) (fun _ _ _ h => h) hC (by rfl) ?_ ?_
      rotate_left
      · intro w hSw; (try dsimp only at hSw); go_simp; try (with_reducible rfl)
      try simp only [Act.put, List.setIfInBounds_toArray, List.set_cons_zero, List.set_cons_succ]
      refine takeW (i := 3) (v := ?_) rfl (by kernel_rfl) (by kernel_rfl) (by kernel_rfl) (by kernel_rfl) (by kernel_rfl) (fun _ _ _ h => h) hC (by rfl) ?_ ?_
      rotate_left
      · intro w hSw; (try dsimp only at hSw); go_simp; try (with_reducible rfl)
      try simp only [Act.put, List.setIfInBounds_toArray, List.set_cons_zero, List.set_cons_succ]
      refine takeW (i := 4) (v := ?_) rfl (by kernel_rfl) (by kernel_rfl) (by kernel_rfl) (by kernel_rfl) (by kernel_rfl) (fun _ _ _ h => h) hC (by rfl) ?_ ?_
      rotate_left
      · intro w hSw; (try dsimp only at hSw); go_simp; try (with_reducible rfl)
      try simp only [Act.put, List.setIfInBounds_toArray, List.set_cons_zero, List.set_cons_succ]
      refine takeW (i := 5) (v := ?_) rfl (by kernel_rfl) (by kernel_rfl) (by kernel_rfl) (by kernel_rfl) (by kernel_rfl) (fun _ _ _ h => h) hC (by rfl) ?_ ?_
      rotate_left
      · intro w hSw; (try dsimp only at hSw); go_simp; try (with_reducible rfl)
      try simp only [Act.put, List.setIfInBounds_toArray, List.set_cons_zero, List.set_cons_succ]
      refine takeW (i := 6) (v := ?_) rfl (by kernel_rfl) (by kernel_rfl) (by kernel_rfl) (by kernel_rfl) (by kernel_rfl) (fun _ _ _ h => h) hC (by rfl) ?_ ?_
      rotate_left
      · intro w hSw; (try dsimp only at hSw); go_simp; try (with_reducible rfl)
      try simp only [Act.put, List.setIfInBounds_toArray, List.set_cons_zero, List.set_cons_succ]
      refine takeW (i := 7) (v := ?_) rfl (by kernel_rfl) (by kernel_rfl) (by kernel_rfl) (by kernel_rfl) (by kernel_rfl) (fun _ _ _ h => h) hC (by rfl) ?_ ?_
      rotate_left
      · intro w hSw; (try dsimp only at hSw); go_simp; try (with_reducible rfl)
      try simp only [Act.put, List.setIfInBounds_toArray, List.set_cons_zero, List.set_cons_succ]
      refine twoT (i := 8) (j := 9) (by kernel_rfl) rfl rfl (by rfl) (by rfl) (fun K hK => ?_) (fun K hK => ?_)
      · go_simp
        refine (now_touch (U := uV) HB1.out).mono ?_
        rintro e w1 (⟨z, c2, s2, rfl, hz, hB, hKp⟩ | ⟨rfl, hP⟩)
        · refine hK.out _ _ (fun h => absurd h (by decide)) ?_
          clear hK K
          obtain ⟨u1, u2, u3⟩ := put_new w1 z 2
          have HV : Hid (LV d R w a me wk p y w1.heap.size L N o (K1 z) r z (w1.alloc (.cells #[.int .i64 z] 2)) c2 s2) :=
            ⟨hB.more u1 (fun b e => by rcases e with e | e; exact .inl e; exact .inr (by omega)) (fun b e => .inl (.inl e)), below_read u1 (hKp.read (.inr rfl) vX), num_cell u2⟩
          have hC1 : w1.cell? ⟨p, 0, none⟩ = some (ptr a) ∧ w1.cell? ⟨p, 1, none⟩ = some (ptr d.W) ∧ w1.cell? ⟨d.W, 2, none⟩ = some (ptr d.E) := ⟨hB.tk.c0, hB.tk.c1, hB.wcell.1⟩
          clear hB u1 u2 u3 hKp hC
          try simp only [Act.put, List.setIfInBounds_toArray, List.set_cons_zero, List.set_cons_succ]
          refine oneT (i := 9) (by kernel_rfl) rfl (by rfl) (fun K hK => ?_)
          go_simp
          refine hK.out _ _ (fun _ => ⟨c_old hC1.1, c_old hC1.2.1, c_old hC1.2.2⟩) ?_
          clear hK K
          try simp only [Act.put, List.setIfInBounds_toArray, List.set_cons_zero, List.set_cons_succ]
          refine oneT (i := 10) (by kernel_rfl) rfl (by rfl) (fun K hK => ?_)
          go_simp
          refine hK.out _ _ (fun h => absurd h (by decide)) ?_
          clear hK K
          try simp only [Act.put, List.setIfInBounds_toArray, List.set_cons_zero, List.set_cons_succ]
          refine doneT (by kernel_rfl) ?_
          go_wp2
          go_meet
          case rel => exact ⟨_, z, c2, s2, rfl, hz, HV.out⟩
        · exact ⟨rfl, hP⟩
      · go_simp
        obtain ⟨X1, q, hX1, hq, b1, v1, s1'⟩ : ∃ (X1 : World) (q : Nat), X0.alloc (.cells #[.int .i64 0] 2) = X1 ∧ X0.heap.size = q ∧ Below X0.heap.size X0 X1 ∧ X1.heap[q]? = some (.cells #[.int .i64 0] 2 (0, 0)) ∧ X1.heap.size = q + 1 := ⟨_, _, rfl, rfl, below_new _ _, heap_alloc_new _ _, by simp⟩
        (try rw [hX1]); (try rw [hq])
        refine hK.out _ _ (fun _ => ⟨below_read b1 hC.1, below_read b1 hC.2.1, below_read b1 hC.2.2⟩) ?_
        clear hK K hX1
        have HB3 : Hid (BS d R (fun b => ((R b ∨ b = p) ∨ b = y) ∨ b = q) w a me wk p L N o (.tch gNow K1) X1 c1 s1) := HB1.out.more b1 (fun b e => by rcases e with e | e; exact .inl e; exact .inr (by omega)) (fun b e => .inl (.inl e))
        have hqy : y < q := by have := hbX0.size; omega
        have hqR : ¬ R q := fun e => by have := HRL.out q e; omega
        have hqp : q ≠ p := by have := HB1.out.lv.lt p (.inl (.inr rfl)); omega
        try simp only [Act.put, List.setIfInBounds_toArray, List.set_cons_zero, List.set_cons_succ]
        refine oneT (i := 8) (by kernel_rfl) rfl (by rfl) (fun K hK => ?_)
        go_simp
        refine (now_touch (U := uV) HB3.out).mono ?_
        rintro e w1 (⟨z, c2, s2, rfl, hz, hB, hKp⟩ | ⟨rfl, hP⟩)
        · refine hK.out _ _ (fun h => absurd h (by decide)) ?_
          clear hK K
          have v2 : w1.heap[q]? = some (.cells #[.int .i64 0] 2 (0, 0)) := (hKp.block q (.inr rfl)).trans v1
          have d0 := num_cell v2
          have f0 : w1.frozen? ⟨q, 0, none⟩ = false := frozen_of_row w1 q 0 _ _ v2
          have vy1 : w1.cell? ⟨y, 0, none⟩ = some (.int .i64 r) := hKp.read (.inl (.inr rfl)) (below_read b1 vX)
          have HV : Hid (LV d R w a me wk p y q L N o (K1 z) r z (w1.setCell ⟨q, 0, none⟩ (.int .i64 z)) c2 s2) := ⟨hB.setR (.inr rfl) _ hqR hqp, by rw [World.cell?_setCell_other]; exact vy1; (intro e; injection e with e; omega), num_cell (heap_setCell_same w1 q 0 _ _ _ v2)⟩
          clear hB hKp v1 v2 HB3 HB1 hC b1 vy1
          try simp only [Act.put, List.setIfInBounds_toArray, List.set_cons_zero, List.set_cons_succ]
          refine oneT (i := 10) (by kernel_rfl) rfl (by rfl) (fun K hK => ?_)
          go_simp
          refine hK.out _ _ (fun h => absurd h (by decide)) ?_
          clear hK K
          try simp only [Act.put, List.setIfInBounds_toArray, List.set_cons_zero, List.set_cons_succ]
          refine doneT (by kernel_rfl) ?_
          go_wp2
          go_meet
          case rel => exact ⟨_, z, c2, s2, rfl, hz, HV.out⟩
        · exact ⟨rfl, hP⟩
    case rest =>
      clear HB2 vY
      obtain ⟨q, z, c2, s2, rfl, HV⟩ := hcut
      have HV2 : Hid (LV d R w a me wk p y q L N o (kL me r (rs.drop (j + 1)) z) r z wc c2 s2) := by
        have := HV.out.2
        rw [← HK1.out] at this
        exact this
      have HD := Lib.hid (touch_touch (me := me) (f := 71) (cap := #[ptr p, ptr y, ptr q]) (g := gLeave me r z) (fun W => rfl) HV2.out.bs.lv (fun _ => rfl) (by
        intro hl w1 FW hWS hR hsz
        exact leave1_walk hWS (HV2.out.bs.lv.fit hl) (HV2.out.bs.tk.cells (hR _ (.inl (.inl (.inr rfl)))).1) (cell_same (hR _ (.inl (.inr rfl))).1 HV2.out.vy) (cell_same (hR _ (.inr rfl)).1 HV2.out.vq) (by rw [HV2.out.bs.len]; exact hi)))
      obtain ⟨t0, t1, t2⟩ := HV2.out.bs.tk
      clear HV HK1
      go_wp2_with fail
      refine HD.out.mono ?_
      clear HD t0 t1 t2
      intro e w3 hP
      have hT := BS.call (t := .tch (gLeave me r z) fun _ => .ret ()) (K := fun _ => tLeave me (rs.drop (j + 1))) (U := uV) (Q := fun _ => True) HV2.out.bs ⟨fun s e => (gLeave_len me r z s).trans e, fun _ => trivial⟩ (fun _ _ _ _ => trivial) hP
      clear hP
      obtain ⟨v, c3, s3, rfl, -, hB, hKp⟩ | ⟨rfl, hP⟩ := hT
      case inr => exact ⟨rfl, hP⟩
      have HB4 := Lib.hid (hB.less (X' := fun b => R b ∨ b = p) (fun b e => .inl (.inl e)) (fun b e => e))
      clear HV2 hB hKp
      go_wp2
      go_roundg (gk - 1)
      case measure => omega
      case rel => exact ⟨j + 1, c3, s3, by omega, by go_num, HB4.out⟩
end
end Go.Proofs.Ytmnbdhngadjmiaa
