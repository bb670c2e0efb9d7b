/-
  What llx's read comes to within work.
-/
import Derived.Test.YtcegianjpifnbaaGreatLr10
import Derived.Deep.Cut
import Derived.Deep.LoopGhost
namespace Go.Proofs.YtcegianjpifnbaaGreat
open Go.ChangeShapes Go.WideShapes Go.ChangeAt Go.RowKit
set_option linter.unusedVariables false
set_option linter.unusedSimpArgs false
set_option maxRecDepth 20000

section
variable {nds : List (Int × Nd)} {M : Nat} {d : Wd} {R R' X X' : Nat → Prop} {w w' w0 wr w1 : World} {a st ph k me p q : Nat} {wk : Value} {zs ws : List Int} {c : Cur} {s : Sig} {n r : Int} {nd : Nd} {pv kv zv T : Value} {t : Tr (Sn × Bool)} {o : Out (Sn × Bool)} {e : Ending}
theorem read_boxes (w : World) (a W me : Nat) : ∃ (X : World) (p : Nat), (w.alloc (.cells #[ptr a, ptr W, .int .i64 (me : Int)] tkT)).alloc (.cells #[.int .i64 0, .int .i64 0, .bool false, .bool false, .slice none 0 0, .slice none 0 0, .slice none 0 0, .slice none 0 0] snT) = X ∧ w.heap.size = p ∧ Below w.heap.size w X ∧ Tk X p a W me ∧ Eig X (p + 1) 0 0 false false (.slice none 0 0) (.slice none 0 0) (.slice none 0 0) (.slice none 0 0) ∧ X.heap.size = p + 2 :=
  ⟨_, _, rfl, rfl, ((Below.refl _ w).alloc (Nat.le_refl _) _).alloc (by simp) _, ⟨c_old (Tk.new w a W me).c0, c_old (Tk.new w a W me).c1, c_old (Tk.new w a W me).c2⟩, Eig.new _ (by simp) _ _ _ _ _ _ _ _, by simp⟩
/-- Where it is ahead of the first way. -/
theorem RM.begin_ {W X : World} (hB : BT (Stt nds M) d R (fun b => R b ∨ b = p ∨ b = p + 1) w a me wk p o t W c s) (e1 : Eig W (p + 1) 0 0 false false (.slice none 0 0) (.slice none 0 0) (.slice none 0 0) (.slice none 0 0)) (hp : w.heap.size = p) (hW : W.heap.size = p + 2) (hX : Below W.heap.size W X) (hs : X.heap.size = q + 1) (hq : p + 1 < q) (e2 : Eig X q r n nd.inn nd.tag pv kv zv (.slice none 0 0)) : RM nds M d R w a me wk p q o r n nd pv kv zv (.slice none 0 0) [] t X c s :=
  ⟨hB.more hX (fun b e => by
    rcases e with e | e | ⟨_, e⟩
    · exact .inl (.inl e)
    · by_cases h1 : b = p
      · exact .inl (.inr (.inl h1))
      · by_cases h2 : b = p + 1
        · exact .inl (.inr (.inr h2))
        · exact .inr ⟨by omega, by omega⟩
    · cases e) (fun b e => e.imp id fun e => .inl ⟨by omega, by omega⟩), e1.below hX, e2, Row.nil _ _ _, fun b e => (by cases e), hq, hp⟩
/-- What read answers. -/
theorem RM.fin {y : Int} (h : RM nds M d R w a me wk p q o r n nd pv kv zv T ws (.ret (⟨r, n, nd, ws⟩, y == n)) wr c s) (hR : ∀ b, R b → b < w.heap.size) (h1 : IsSl pv) (h2 : IsSl kv) (h3 : IsSl zv) :
    Eig (put8 wr (p + 1) r n nd.inn nd.tag pv kv zv T) (p + 1) r n nd.inn nd.tag pv kv zv T ∧ PostM d R w a wk RdU o (.returned (.tuple #[snv r n nd.inn nd.tag pv kv zv T, .bool (y == n)])) (put8 wr (p + 1) r n nd.inn nd.tag pv kv zv T) := by
  have hlt := h.lt
  have hX : ∀ b, b = p + 1 → (fun b => R b ∨ (p ≤ b ∧ b ≤ q) ∨ (q < b ∧ T.ownBlock = some b)) b := fun b e => .inr (.inl (by omega))
  have nR : ¬ R (p + 1) := fun f => by have := hR _ f; omega
  have hB := (((((((h.bt.setR (j := 0) (hX _ rfl) (.int .i64 r) nR (by omega)).setR (j := 1) (hX _ rfl) (.int .i64 n) nR (by omega)).setR (j := 2) (hX _ rfl) (.bool nd.inn) nR (by omega)).setR (j := 3) (hX _ rfl) (.bool nd.tag) nR (by omega)).setR (j := 4) (hX _ rfl) pv nR (by omega)).setR (j := 5) (hX _ rfl) kv nR (by omega)).setR (j := 6) (hX _ rfl) zv nR (by omega)).setR (j := 7) (hX _ rfl) T nR (by omega)
  have hO := only_put8 wr (p + 1) r n nd.inn nd.tag pv kv zv T
  refine ⟨h.e1.put, hB.postM (Y := fun b => T.ownBlock = some b) ⟨_, rfl, pv, kv, zv, T, rfl, h1, h2, h3, own_at h.row fun b e => ?_, fun b e => e⟩ (fun b e => .inr (.inr ⟨h.own b e, e⟩)) fun b e => ?_⟩
  · have := h.own b e
    exact hO.block b (h.bt.lv.lt b (.inr (.inr ⟨this, e⟩))) (fun e2 => by omega)
  · have := h.own b e; omega
set_option maxHeartbeats 4000000 in
theorem lread_touch (hx : (r, nd) ∈ nds) (hnd : nd.small) (h : Lv d R w a wk c s) (hP : Stt nds M s) :
    Calls Tryz.prog 115 #[tkV a d.W me, .int .i64 r, .int .i64 n] w (PostM d R w a wk RdU (run (tRead r n nd) c s)) := by
  have e3 := mk_fn
  have HR := Lib.hid h.lt
  obtain ⟨W, p, hW, hp, bb, tk, e1, hsz⟩ := read_boxes w a d.W me
  obtain ⟨o, ho⟩ : ∃ o, run (tRead r n nd) c s = o := ⟨_, rfl⟩
  rw [ho]
  have HB : Hid (BT (Stt nds M) d R (fun b => R b ∨ b = p ∨ b = p + 1) w a me wk p o (tRead r n nd) W c s) := by
    show BT _ _ _ _ _ _ _ _ _ _ _ _ _ _
    rw [← ho]
    exact BT.begin_ h bb (fun b e => e.imp id fun e => by omega) (fun b e => e.imp id .inl) tk hP
  have HL : Hid (Calls Tryz.prog 50 #[ptr d.A, .int .i64 r] W (MadeN W nd)) := by
    obtain ⟨F, FW, T, h1, h2, -, -⟩ := HB.out.lv.lv
    obtain ⟨i, pp, hh, hnd2⟩ := hP.nod _ hx
    have hnd3 : pp.nd = nd := hnd2
    rw [← hnd3]
    exact nxW_look0 h2 hP.len hP.cnt hh
  have g0 : W.cell? ⟨d.W, 0, none⟩ = some (ptr d.A) := by
    obtain ⟨F, FW, T, h1, h2, -, -⟩ := HB.out.lv.lv
    exact h2.cells.1
  have HE1 := Lib.hid e1
  have HP := Lib.hid hp
  have HSZ := Lib.hid hsz
  obtain ⟨t0, t1, t2⟩ := tk
  obtain ⟨f0, f1, f2, f3, f4, f5, f6, f7⟩ := e1.frees
  clear h bb hsz hP ho e1 hx f0 f1 f2 f3 f4 f5 f6 f7
  go_enter Tryz.func115, Tryz.ntmps115
  go_wp2_with fail
  (try rw [hp]); (try rw [hW])
  refine HL.out.mono ?_
  rintro e w1 ⟨pv, kv, zv, rfl, r1, r2, r3, hb1⟩
  clear HL hW
  obtain ⟨P1, n1, q1, rfl⟩ := r1.shape
  obtain ⟨P2, n2, q2, rfl⟩ := r2.shape
  obtain ⟨P3, n3, q3, rfl⟩ := r3.shape
  obtain rfl : n3 = nd.zs.length := r3.sl.len
  obtain ⟨X, q, hX, hq, e2, bX, sX⟩ : ∃ (X : World) (q : Nat), w1.alloc (.cells #[.int .i64 0, .int .i64 0, .bool false, .bool false, .slice none 0 0, .slice none 0 0, .slice none 0 0, .slice none 0 0] snT) = X ∧ w1.heap.size = q ∧ Eig X q 0 0 false false (.slice none 0 0) (.slice none 0 0) (.slice none 0 0) (.slice none 0 0) ∧ Below w1.heap.size w1 X ∧ X.heap.size = q + 1 := ⟨_, _, rfl, rfl, Eig.new _ rfl _ _ _ _ _ _ _ _, below_new _ _, by simp⟩
  obtain ⟨x0, x1, x2, x3, x4, x5, x6, x7⟩ := e2.cells
  obtain ⟨f0, f1, f2, f3, f4, f5, f6, f7⟩ := e2.frees
  obtain ⟨Z, hZ⟩ : ∃ Z, put8 X q r n nd.inn nd.tag (.slice P1 n1 q1) (.slice P2 n2 q2) (.slice P3 nd.zs.length q3) (.slice none 0 0) = Z := ⟨_, rfl⟩
  have hpq : p + 1 < q := by have := hb1.size; have := HSZ.out; omega
  have HM0 : Hid (RM nds M d R w a me wk p q o r n nd (.slice P1 n1 q1) (.slice P2 n2 q2) (.slice P3 nd.zs.length q3) (.slice none 0 0) [] (tRead r n nd) Z c s) := by
    have hO := only_put8 X q r n nd.inn nd.tag (.slice P1 n1 q1) (.slice P2 n2 q2) (.slice P3 nd.zs.length q3) (.slice none 0 0)
    rw [hZ] at hO
    have bZ : Below w1.heap.size X Z := hO.below (fun b e => by omega) (by omega)
    exact RM.begin_ HB.out HE1.out HP.out HSZ.out (hb1.trans ((bX.trans bZ).mono hb1.size)) (by rw [← hZ]; simp [sX]) hpq (by rw [← hZ]; exact e2.put)
  obtain ⟨c0, c1, c2, c3⟩ := HM0.out.cells
  obtain ⟨-, -, -, -, -, -, y6, -⟩ := HM0.out.e2.cells
  obtain ⟨m, hm⟩ : ∃ m, nd.zs.length = m := ⟨_, rfl⟩
  have hm100 : m ≤ 100 := by rw [← hm]; exact hnd.2.2
  rw [hm] at hZ HM0 y6
  (try rw [hm])
  have HMM := Lib.hid hm
  clear HB HE1 HP HSZ e2 bX sX hpq hb1 t0 t1 t2 g0 hm hnd
  go_wp2_with fail
  (try rw [hX]); (try rw [hq])
  (try rw [hZ])
  clear x0 x1 x2 x3 x4 x5 x6 x7 f0 f1 f2 f3 f4 f5 f6 f7 hX hq hZ c0 c1 c2 c3 y6 r1 r2 r3
  go_loopg [25] m (fun gk i wr => ∃ (j : Nat) (c' : Cur) (s' : Sig) (A : Option Addr) (n0 q0 : Nat) (ws : List Int), j + gk = m ∧ i = .int .i64 (j : Int) ∧ ws.length = j ∧ Hid (RM nds M d R w a me wk p q o r n nd (.slice P1 n1 q1) (.slice P2 n2 q2) (.slice P3 m q3) (.slice A n0 q0) ws ((tWays r (m - j) j ws).bind fun ws => (tDo (gInfo r)).bind fun y => .ret (⟨r, n, nd, ws⟩, y == n)) wr c' s'))
  case atStart =>
    refine ⟨0, c, s, none, 0, 0, [], by omega, rfl, rfl, ?_⟩
    have h := HM0.out
    unfold tRead at h
    rw [HMM.out] at h
    exact h
  case round =>
    clear HM0
    obtain ⟨j, c1, s1, A, n0, q0, ws, hj, rfl, hwl, HH⟩ := hrel
    by_cases hlt : j < m
    case neg =>
      have i1 : ¬ ((j : Int) < (m : Int)) := by omega
      obtain rfl : j = m := by omega
      have HM1 : Hid (RM nds M d R w a me wk p q o r n nd (.slice P1 n1 q1) (.slice P2 n2 q2) (.slice P3 j q3) (.slice A n0 q0) ws ((tDo (gInfo r)).bind fun y => .ret (⟨r, n, nd, ws⟩, y == n)) wr c1 s1) := by
        have h := HH.out
        rw [Nat.sub_self] at h
        exact h
      clear HH
      go_wp2_with fail
      refine region_T (fun _ => false) (fun w' => w'.cell? ⟨p, 0, none⟩ = some (ptr a) ∧ w'.cell? ⟨p, 1, none⟩ = some (ptr d.W) ∧ w'.cell? ⟨p, 2, none⟩ = some (.int .i64 (me : Int)) ∧ w'.cell? ⟨q, 0, none⟩ = some (.int .i64 r) ∧ w'.cell? ⟨q, 1, none⟩ = some (.int .i64 n) ∧ w'.cell? ⟨q, 2, none⟩ = some (.bool nd.inn) ∧ w'.cell? ⟨q, 3, none⟩ = some (.bool nd.tag) ∧ w'.cell? ⟨q, 4, none⟩ = some (.slice P1 n1 q1) ∧ w'.cell? ⟨q, 5, none⟩ = some (.slice P2 n2 q2) ∧ w'.cell? ⟨q, 6, none⟩ = some (.slice P3 j q3) ∧ w'.cell? ⟨q, 7, none⟩ = some (.slice A n0 q0)) (by kernel_rfl) ?_
      obtain ⟨X0, hX0, hbX0⟩ : ∃ X0 : World, wr.drew = X0 ∧ Below wr.heap.size wr X0 := ⟨_, rfl, (Below.refl _ wr).drew⟩
      have HM2 := Lib.hid (HM1.out.below hbX0)
      rw [hX0]
      clear hX0 HM1 hbX0
      have HC : Hid (∀ (t' : Tr (Sn × Bool)) (c' : Cur) (s' : Sig) (w' : World), RM nds M d R w a me wk p q o r n nd (.slice P1 n1 q1) (.slice P2 n2 q2) (.slice P3 j q3) (.slice A n0 q0) ws t' w' c' s' → (fun w' => w'.cell? ⟨p, 0, none⟩ = some (ptr a) ∧ w'.cell? ⟨p, 1, none⟩ = some (ptr d.W) ∧ w'.cell? ⟨p, 2, none⟩ = some (.int .i64 (me : Int)) ∧ w'.cell? ⟨q, 0, none⟩ = some (.int .i64 r) ∧ w'.cell? ⟨q, 1, none⟩ = some (.int .i64 n) ∧ w'.cell? ⟨q, 2, none⟩ = some (.bool nd.inn) ∧ w'.cell? ⟨q, 3, none⟩ = some (.bool nd.tag) ∧ w'.cell? ⟨q, 4, none⟩ = some (.slice P1 n1 q1) ∧ w'.cell? ⟨q, 5, none⟩ = some (.slice P2 n2 q2) ∧ w'.cell? ⟨q, 6, none⟩ = some (.slice P3 j q3) ∧ w'.cell? ⟨q, 7, none⟩ = some (.slice A n0 q0)) w') := fun t' c' s' w' h => by
        obtain ⟨c0, c1, c2, -⟩ := h.cells
        exact ⟨c0, c1, c2, h.e2.cells⟩
      have hC := HC.out _ _ _ _ HM2.out
      refine takeX 0 38 (v := ?_) rfl rfl (by kernel_rfl) (by kernel_rfl) (by kernel_rfl) (by kernel_rfl) (by kernel_rfl) (fun _ _ _ _ h => h) hC (by rfl) ?_ ?_
      rotate_left
      · intro w hSw; (try dsimp only at hSw); go_simp; try (with_reducible rfl)
      simp only [List.setIfInBounds_toArray, List.set_cons_zero, List.set_cons_succ]
      refine takeX 1 39 (v := ?_) rfl rfl (by kernel_rfl) (by kernel_rfl) (by kernel_rfl) (by kernel_rfl) (by kernel_rfl) (fun _ _ _ _ h => h) hC (by rfl) ?_ ?_
      rotate_left
      · intro w hSw; (try dsimp only at hSw); go_simp; try (with_reducible rfl)
      simp only [List.setIfInBounds_toArray, List.set_cons_zero, List.set_cons_succ]
      refine takeX 2 40 (v := ?_) rfl rfl (by kernel_rfl) (by kernel_rfl) (by kernel_rfl) (by kernel_rfl) (by kernel_rfl) (fun _ _ _ _ h => h) hC (by rfl) ?_ ?_
      rotate_left
      · intro w hSw; (try dsimp only at hSw); go_simp; try (with_reducible rfl)
      simp only [List.setIfInBounds_toArray, List.set_cons_zero, List.set_cons_succ]
      refine takeX 4 42 (v := ?_) rfl rfl (by kernel_rfl) (by kernel_rfl) (by kernel_rfl) (by kernel_rfl) (by kernel_rfl) (fun _ _ _ _ h => h) hC (by rfl) ?_ ?_
      rotate_left
      · intro w hSw; (try dsimp only at hSw); go_simp; try (with_reducible rfl)
      simp only [List.setIfInBounds_toArray, List.set_cons_zero, List.set_cons_succ]
      refine oneT (i := 3) (by kernel_rfl) rfl (by rfl) (fun K hK => ?_)
      go_simp
      refine (linfo_touch (me := me) (r := r) HM2.out.bt.lv).mono ?_
      intro e w2 hP
      rcases BT.call (K := fun y => .ret ((⟨r, n, nd, ws⟩, y == n) : Sn × Bool)) HM2.out.bt (run_kpL kl_info) hP with ⟨y, c2, s2, rfl, -, hB, hKp⟩ | hx
      case inr => obtain ⟨rfl, hx⟩ := hx; exact ⟨rfl, .inr ⟨rfl, hx⟩⟩
      have HM3 := Lib.hid (HM2.out.next hB hKp)
      have hC2 := HC.out _ _ _ _ HM3.out
      refine hK.out _ _ (fun _ => hC2) ?_
      clear hK K hC hB hKp hP HM2 HC
      have hC := hC2
      clear hC2
      try simp only [Act.put, List.setIfInBounds_toArray, List.set_cons_zero, List.set_cons_succ]
      refine takeX 5 43 (v := ?_) rfl rfl (by kernel_rfl) (by kernel_rfl) (by kernel_rfl) (by kernel_rfl) (by kernel_rfl) (fun _ _ _ _ h => h) hC (by rfl) ?_ ?_
      rotate_left
      · intro w hSw; (try dsimp only at hSw); go_simp; try (with_reducible rfl)
      simp only [List.setIfInBounds_toArray, List.set_cons_zero, List.set_cons_succ]
      obtain ⟨x0, x1, x2, x3, x4, x5, x6, x7⟩ := HM3.out.e1.cells
      obtain ⟨f0, f1, f2, f3, f4, f5, f6, f7⟩ := HM3.out.e1.frees
      refine oneT (i := 6) (by kernel_rfl) rfl (by rfl) (fun K hK => ?_)
      go_simp
      have HE := Lib.hid (HM3.out.fin HR.out ⟨_, _, _, rfl⟩ ⟨_, _, _, rfl⟩ ⟨_, _, _, rfl⟩)
      have hO := only_put8 w2 (p + 1) r n nd.inn nd.tag (.slice P1 n1 q1) (.slice P2 n2 q2) (.slice P3 j q3) (.slice A n0 q0)
      have hpq := HM3.out.lt
      have hlp := HM3.out.bt.lv.lt p (.inr (.inl (by omega)))
      have hlq := HM3.out.e2.lt
      have hCp := hO.block p hlp (by omega)
      have hCq := hO.block q hlq (by omega)
      obtain ⟨z0, z1, z2, z3, z4, z5, z6, z7, z8, z9, z10⟩ := hC
      refine hK.out _ _ (fun _ => ⟨cell_same hCp z0, cell_same hCp z1, cell_same hCp z2, cell_same hCq z3, cell_same hCq z4, cell_same hCq z5, cell_same hCq z6, cell_same hCq z7, cell_same hCq z8, cell_same hCq z9, cell_same hCq z10⟩) ?_
      have hC : (fun w' => w'.cell? ⟨p, 0, none⟩ = some (ptr a) ∧ w'.cell? ⟨p, 1, none⟩ = some (ptr d.W) ∧ w'.cell? ⟨p, 2, none⟩ = some (.int .i64 (me : Int)) ∧ w'.cell? ⟨q, 0, none⟩ = some (.int .i64 r) ∧ w'.cell? ⟨q, 1, none⟩ = some (.int .i64 n) ∧ w'.cell? ⟨q, 2, none⟩ = some (.bool nd.inn) ∧ w'.cell? ⟨q, 3, none⟩ = some (.bool nd.tag) ∧ w'.cell? ⟨q, 4, none⟩ = some (.slice P1 n1 q1) ∧ w'.cell? ⟨q, 5, none⟩ = some (.slice P2 n2 q2) ∧ w'.cell? ⟨q, 6, none⟩ = some (.slice P3 j q3) ∧ w'.cell? ⟨q, 7, none⟩ = some (.slice A n0 q0)) (put8 w2 (p + 1) r n nd.inn nd.tag (.slice P1 n1 q1) (.slice P2 n2 q2) (.slice P3 j q3) (.slice A n0 q0)) := ⟨cell_same hCp z0, cell_same hCp z1, cell_same hCp z2, cell_same hCq z3, cell_same hCq z4, cell_same hCq z5, cell_same hCq z6, cell_same hCq z7, cell_same hCq z8, cell_same hCq z9, cell_same hCq z10⟩
      clear hK K x0 x1 x2 x3 x4 x5 x6 x7 f0 f1 f2 f3 f4 f5 f6 f7 HM3 hO hpq hlp hlq hCp hCq z0 z1 z2 z3 z4 z5 z6 z7 z8 z9 z10
      try simp only [Act.put, List.setIfInBounds_toArray, List.set_cons_zero, List.set_cons_succ]
      refine oneT (i := 7) (by kernel_rfl) rfl (by rfl) (fun K hK => ?_)
      go_simp
      refine hK.out _ _ (fun _ => hC) ?_
      clear hK K hC
      try simp only [Act.put, List.setIfInBounds_toArray, List.set_cons_zero, List.set_cons_succ]
      refine doneT (by kernel_rfl) ?_
      go_wp2
      ((try simp only [Exit.inBlock, Exit.then]); refine bodyPost_ret (results_eig2 rfl rfl rfl HE.out.1) rfl ?_)
      exact HE.out.2
    have i1 : (j : Int) < (m : Int) := by omega
    have hkw : IntKind.i64.wrap ((j : Int) + 1) = (j : Int) + 1 := IntWalk.i64_in _ (by omega)
    obtain ⟨k, hk⟩ : ∃ k, m - j = k + 1 := ⟨m - j - 1, by omega⟩
    have HM1 : Hid (RM nds M d R w a me wk p q o r n nd (.slice P1 n1 q1) (.slice P2 n2 q2) (.slice P3 m q3) (.slice A n0 q0) ws ((tDo (gWay r (j : Int))).bind fun z => (tWays r k (j + 1) (ws ++ [z])).bind fun ws => (tDo (gInfo r)).bind fun y => .ret (⟨r, n, nd, ws⟩, y == n)) wr c1 s1) := by
      have h := HH.out
      rw [hk] at h
      unfold tWays at h
      rw [Tr.bind_bind] at h
      exact h
    clear HH
    go_wp2_with fail
    refine region_T (fun k => Nat.ble 7 k) (fun w' => w'.cell? ⟨p, 0, none⟩ = some (ptr a) ∧ w'.cell? ⟨p, 1, none⟩ = some (ptr d.W) ∧ w'.cell? ⟨p, 2, none⟩ = some (.int .i64 (me : Int)) ∧ w'.cell? ⟨q, 7, none⟩ = some (.slice A n0 q0)) (by kernel_rfl) ?_
    obtain ⟨X0, hX0, hbX0⟩ : ∃ X0 : World, wr.drew = X0 ∧ Below wr.heap.size wr X0 := ⟨_, rfl, (Below.refl _ wr).drew⟩
    have HM2 := Lib.hid (HM1.out.below hbX0)
    rw [hX0]
    clear hX0 HM1 hbX0
    have hC := HM2.out.cells
    refine takeX 0 28 (v := ?_) rfl rfl (by kernel_rfl) (by kernel_rfl) (by kernel_rfl) (by kernel_rfl) (by kernel_rfl) (fun _ _ _ _ h => h) hC (by rfl) ?_ ?_
    rotate_left
    · intro w hSw; (try dsimp only at hSw); go_simp; try (with_reducible rfl)
    simp only [List.setIfInBounds_toArray, List.set_cons_zero, List.set_cons_succ]
    refine takeX 1 29 (v := ?_) rfl rfl (by kernel_rfl) (by kernel_rfl) (by kernel_rfl) (by kernel_rfl) (by kernel_rfl) (fun _ _ _ _ h => h) hC (by rfl) ?_ ?_
    rotate_left
    · intro w hSw; (try dsimp only at hSw); go_simp; try (with_reducible rfl)
    simp only [List.setIfInBounds_toArray, List.set_cons_zero, List.set_cons_succ]
    refine takeX 2 30 (v := ?_) rfl rfl (by kernel_rfl) (by kernel_rfl) (by kernel_rfl) (by kernel_rfl) (by kernel_rfl) (fun _ _ _ _ h => h) hC (by rfl) ?_ ?_
    rotate_left
    · intro w hSw; (try dsimp only at hSw); go_simp; try (with_reducible rfl)
    simp only [List.setIfInBounds_toArray, List.set_cons_zero, List.set_cons_succ]
    refine takeX 3 31 (v := ?_) rfl rfl (by kernel_rfl) (by kernel_rfl) (by kernel_rfl) (by kernel_rfl) (by kernel_rfl) (fun _ _ _ _ h => h) hC (by rfl) ?_ ?_
    rotate_left
    · intro w hSw; (try dsimp only at hSw); go_simp; try (with_reducible rfl)
    simp only [List.setIfInBounds_toArray, List.set_cons_zero, List.set_cons_succ]
    refine takeX 4 32 (v := ?_) rfl rfl (by kernel_rfl) (by kernel_rfl) (by kernel_rfl) (by kernel_rfl) (by kernel_rfl) (fun _ _ _ _ h => h) hC (by rfl) ?_ ?_
    rotate_left
    · intro w hSw; (try dsimp only at hSw); go_simp; try (with_reducible rfl)
    simp only [List.setIfInBounds_toArray, List.set_cons_zero, List.set_cons_succ]
    refine oneT (i := 5) (by kernel_rfl) rfl (by rfl) (fun K hK => ?_)
    go_simp
    refine (lway_touch (me := me) (r := r) (i := (j : Int)) HM2.out.bt.inv.win HM2.out.bt.lv).mono ?_
    intro e w2 hP
    rcases BT.call (K := fun z => (tWays r k (j + 1) (ws ++ [z])).bind fun ws => (tDo (gInfo r)).bind fun y => .ret ((⟨r, n, nd, ws⟩, y == n) : Sn × Bool)) HM2.out.bt (run_kpL kl_way) hP with ⟨z, c2, s2, rfl, -, hB, hKp⟩ | hx
    case inr => obtain ⟨rfl, hx⟩ := hx; exact ⟨rfl, .inr ⟨rfl, hx⟩⟩
    have HM3 := Lib.hid (HM2.out.next hB hKp)
    have hC2 := HM3.out.cells
    refine hK.out _ _ (fun _ => hC2) ?_
    clear hK K hC hB hKp hP HM2 hC2
    try simp only [Act.put, List.setIfInBounds_toArray, List.set_cons_zero, List.set_cons_succ]
    refine oneT (i := 6) (by kernel_rfl) rfl (by rfl) (fun K hK => ?_)
    go_simp
    obtain ⟨V1, g, hX, hg, hbn, hgN⟩ : ∃ (X : World) (g : Nat), w2.alloc (.cells #[.int .i64 z] rfT) = X ∧ w2.heap.size = g ∧ Below w2.heap.size w2 X ∧ X.heap[g]? = some (.cells #[.int .i64 z] rfT (0, 0)) := ⟨_, _, rfl, rfl, below_new _ _, heap_alloc_new _ _⟩
    have HM4 := Lib.hid (HM3.out.below hbn)
    (try rw [hX]); (try rw [hg])
    refine hK.out _ _ (fun _ => HM4.out.cells) ?_
    clear hK K hbn hX hg HM3
    try simp only [Act.put, List.setIfInBounds_toArray, List.set_cons_zero, List.set_cons_succ]
    refine oneT (i := 7) (by kernel_rfl) rfl (by rfl) (fun K hK => ?_)
    show Oper.wp _ _ _ _ _ _
    obtain ⟨A', m', c', Z, happ, hz7, hf7, hRM⟩ := HM4.out.push HR.out hgN (by omega)
    have HM5 := Lib.hid hRM
    refine wp_append_d (P := Tryz.prog) 35 _ _ _ _ rfl rfl _ _ rfl rfl happ ?_
    refine hK.out _ _ (fun h => absurd h (by decide)) ?_
    clear hK K happ hRM hgN HM4
    simp only [List.setIfInBounds_toArray, List.set_cons_zero, List.set_cons_succ]
    refine oneT (i := 8) (by kernel_rfl) rfl (by rfl) (fun K hK => ?_)
    go_simp
    refine hK.out _ _ (fun h => absurd h (by decide)) ?_
    clear hK K
    try simp only [Act.put, List.setIfInBounds_toArray, List.set_cons_zero, List.set_cons_succ]
    refine oneT (i := 9) (by kernel_rfl) rfl (by rfl) (fun K hK => ?_)
    go_simp
    obtain ⟨Y, hY⟩ : ∃ Y, Z.setCell ⟨q, 7, none⟩ (.slice A' m' c') = Y := ⟨_, rfl⟩
    rw [hY] at HM5
    (try rw [hY])
    refine hK.out _ _ (fun h => absurd h (by decide)) ?_
    clear hK K hz7 hf7 hY
    try simp only [Act.put, List.setIfInBounds_toArray, List.set_cons_zero, List.set_cons_succ]
    refine doneT (by kernel_rfl) ?_
    go_wp2
    go_roundg (gk - 1)
    case measure => omega
    case rel => exact ⟨j + 1, c2, s2, A', m', c', ws ++ [z], by omega, by go_num, by simp [hwl], by
      have h := HM5.out
      rw [show m - (j + 1) = k from by omega]
      exact h⟩
end
end Go.Proofs.YtcegianjpifnbaaGreat
