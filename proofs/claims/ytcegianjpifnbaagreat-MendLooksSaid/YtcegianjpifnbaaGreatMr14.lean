/-
  A thread that mends, where all is right on the way.
-/
import Derived.Test.YtcegianjpifnbaaGreatMp14
namespace Go.Proofs.YtcegianjpifnbaaGreat
open Go.ChangeShapes Go.WideShapes Go.ChangeAt Go.RowKit
set_option linter.unusedVariables false
set_option linter.unusedSimpArgs false
set_option maxRecDepth 20000

def K0 : List Sp → List Int := fun _ => [0]
def tM (nds : List (Int × Nd)) (rk : Int → Nat) (key : Int) (f : Nat) (r : Int) (acc : List Sp) : Tr (List Int) := (tPath nds rk key f r acc).bind fun l => .ret (K0 l)
section
variable {W : World} {X : Nat → Prop} {nds : List (Int × Nd)} {rk : Int → Nat} {M mo D f n T i : Nat} {hs : Nat → Hp} {os : Nat → Ts} {d : Wd} {R : Nat → Prop} {w : World} {a me : Nat} {wk : Value} {c : Cur} {s : Sig} {key r : Int} {acc : List Sp}
theorem tM_bind : tM nds rk key (D + 1) d.en [] = (tMb nds rk key (D + 1) d.en).bind fun _ => .ret [0] := by
  unfold tM tMb; rw [Tr.bind_bind]; rfl
theorem rets_mb : rets (fun v : Bool => v = false) (tMb nds rk key (D + 1) d.en) := by
  unfold tMb
  refine rets_bind (rets_any _) fun v _ => ?_
  show false = false
  rfl
theorem nl_tM (h : Ok1 nds rk f r) : nl (tM nds rk key (f + 1) r acc) := by
  rcases nl_path (K := fun l => (.ret (K0 l) : Tr (List Int))) (key := key) (acc := acc) h with e | ⟨l, e⟩
  · exact e
  · unfold tM; rw [e]; exact trivial
theorem hd_tM (h : Ok1 nds rk f r) : hd (tM nds rk key (f + 1) r acc) s := by
  have := nl_tM (key := key) (acc := acc) h
  cases e : tM nds rk key (f + 1) r acc with
  | ret v => exact trivial
  | tch g K => exact trivial
  | lk n K => rw [e] at this; exact this.elim
set_option maxHeartbeats 2000000 in
theorem mender1_walk {Bn : Nat} (hN : NdsOk nds) (hmo : mo ≤ 70000) (hD : D ≤ mo) (hen : (nds.lookup d.en).isSome = true ∧ rk d.en ≤ D) (hRt : rets (fun l => RightL d.a l) (tPath nds rk key (D + 1) d.en [])) (h : Lv d R w a wk c s) (hP : SkI nds rk M mo s) (hpt : c.live = true → path (tM nds rk key (D + 1) d.en []) (c.zs.drop c.k) s) (hR : R Bn) (hc : w.cell? ⟨Bn, 0, none⟩ = some (.int .i64 key)) :
    Calls Tryz.prog 27 #[tkV a d.W me, ptr Bn] w (PostW d R w a wk idO (run (tM nds rk key (D + 1) d.en []) c s)) := by
  have HRL := Lib.hid h.lt
  obtain ⟨W, p, hW, hp, bb, tk, hsz⟩ := one_box w a d.W me
  obtain ⟨o, ho⟩ : ∃ o, run (tM nds rk key (D + 1) d.en []) c s = o := ⟨_, rfl⟩
  rw [ho]
  have HB : Hid (BT (SkI nds rk M mo) d R (fun b => R b ∨ b = p) w a me wk p o ((tMb nds rk key (D + 1) d.en).bind fun _ => .ret [0]) W c s) := by
    show BT _ _ _ _ _ _ _ _ _ _ _ _ _ _
    rw [← ho, tM_bind]
    exact BT.begin_ h bb (fun b e => e.imp id fun e => by omega) (fun b e => e) tk hP
  have HD := Lib.hid (mpath_touch (me := me) (K := fun _ => (.ret [0] : Tr (List Int))) hN hmo hD hen hRt HB.out.lv HB.out.inv (fun hl => by have := hpt hl; rw [tM_bind] at this; exact this))
  obtain ⟨t0, t1, t2⟩ := tk
  have hcW := below_read bb hc
  clear h bb hsz hP ho hc hpt hN hen hD hRt
  go_enter Tryz.func27, Tryz.ntmps27
  go_wp2_with fail
  (try rw [hW])
  refine HD.out.mono ?_
  clear HD t0 t1 t2 hcW hW hp
  intro e w1 hPm
  rcases BT.call (P := SkI nds rk M mo) (t := tMb nds rk key (D + 1) d.en) (o := o) (K := fun _ : Bool => (.ret [0] : Tr (List Int))) (V := blV) HB.out (keeps_kpP kp_mb) hPm with ⟨v, c2, s2, rfl, hrun, hB, hKp⟩ | hx
  case inr => obtain ⟨rfl, hx⟩ := hx; exact ⟨rfl, Wts.postW ⟨rfl, hx⟩⟩
  have hv : v = false := run_rets (Q := fun v : Bool => v = false) rets_mb hrun
  subst hv
  obtain ⟨Z, q, hZ, hq, bZ, cZ⟩ : ∃ (Z : World) (q : Nat), w1.alloc (.cells #[.int .i64 0] i6T) = Z ∧ w1.heap.size = q ∧ Below w1.heap.size w1 Z ∧ Z.cell? ⟨q, 0, none⟩ = some (.int .i64 0) := ⟨_, _, rfl, rfl, below_new _ _, c_new rfl rfl⟩
  have HE : Hid (PostW d R w a wk idO o (.returned (.slice (some ⟨q, 0, none⟩) 1 1)) Z) := by
    have hB := hB.below bZ
    show PostW _ _ _ _ _ _ _ _ _
    rw [hB.rn]
    refine ⟨hB.kp, ⟨_, _, _, rfl, ⟨rfl, Nat.le_refl _, (fun e => by cases e), .inr ⟨_, 0, rfl, fun i u hu => ?_⟩⟩, by decide⟩, hB.lv.mono fun b e => hB.sub b (.inl e)⟩
    match i, hu with
    | 0, hu => simp [idO] at hu; subst hu; exact cZ
  clear HB HRL hPm hrun hB hKp bZ cZ
  go_wp2_with fail
  (try rw [hZ]); (try rw [hq])
  go_wp2
  go_ret
  exact HE.out
abbrev mendF : Nat := 27
theorem mend_job {R : Nat → Prop} {me b : Nat} (hN : NdsOk nds) (hmo : mo ≤ 70000) (hD : D ≤ mo) (hRt : rets (fun l => RightL d.a l) (tPath nds rk key (D + 1) d.en [])) (hen : Ok1 nds rk D d.en) (hc : w.cell? ⟨b, 0, none⟩ = some (.int .i64 key)) (hR : R b) : Job d R w mendF me #[ptr b] (SkI nds rk M mo) (tM nds rk key (D + 1) d.en []) idO := by
  intro a wk R' w' h1 h2 w1 R1 zs st s h3 h4 h5 h6 h7 gp
  exact mender1_walk (mo := mo) hN hmo hD ⟨hen.at_, hen.rk⟩ hRt h7 h6 (fun _ => gp) (h3 _ (h1 _ hR)) (cell_same ((h4 _ (h1 _ hR)).trans (h2 _ hR)) hc)
theorem MB.mender (h : MB W X d n T hs os s w) (hN : NdsOk nds) (hmo : mo ≤ 70000) (hD : D ≤ mo) (hRt : rets (fun l => RightL d.a l) (tPath nds rk key (D + 1) d.en [])) (hen : Ok1 nds rk D d.en) :
    Calls Tryz.prog 11 #[ptr d.W, .int .i64 0, .int .i64 key] w fun e w' => ∃ a b, e = .returned (ptr a) ∧ MB W (fun q => X q ∨ q = b) d (n + 1) T (upd hs n ⟨a, 0, mendF, #[ptr b], tM nds rk key (D + 1) d.en [], SkI nds rk M mo⟩) (upd os n (.run (tM nds rk key (D + 1) d.en []))) s w' ∧ Below w.heap.size w w' := by
  have e3 := mk_fn
  obtain ⟨Z, b, hZ, hb, bZ, cZ⟩ : ∃ (Z : World) (b : Nat), w.alloc (.cells #[.int .i64 key] i6T) = Z ∧ w.heap.size = b ∧ Below w.heap.size w Z ∧ Z.cell? ⟨b, 0, none⟩ = some (.int .i64 key) := ⟨_, _, rfl, rfl, below_new _ _, c_new rfl rfl⟩
  have hbZ : b < Z.heap.size := World.block_lt_of_cell? Z _ cZ
  have h1 : MB W (fun q => X q ∨ q = b) d n T hs os s Z := h.more bZ (fun q e => e.imp id fun e => ⟨by omega, by omega⟩) (.inr fun q e => .inl e)
  have hS0 := h1.me.start (me := 0) (f := mendF) (cap := #[ptr b]) (Pr := SkI nds rk M mo) (mend_job hN hmo hD hRt hen cZ (.inr (.inr rfl))) (fun a W => rfl) (hd_tM hen)
  rw [nrm_nl (nl_tM hen)] at hS0
  have HS := Lib.hid hS0
  have HB := Lib.hid h1.bel
  have HZ := Lib.hid bZ
  clear h h1 cZ bZ hbZ hS0
  go_enter Tryz.func11, Tryz.ntmps11
  go_wp2_with fail
  (try rw [hZ]); (try rw [hb])
  refine HS.out.mono ?_
  rintro e w1 ⟨a, rfl, hM1, hb1⟩
  have HE : Hid (MB W (fun q => X q ∨ q = b) d (n + 1) T (upd hs n ⟨a, 0, mendF, #[ptr b], tM nds rk key (D + 1) d.en [], SkI nds rk M mo⟩) (upd os n (.run (tM nds rk key (D + 1) d.en []))) s w1 ∧ Below w.heap.size w w1) := ⟨⟨hM1, HB.out.trans (hb1.mono HB.out.size)⟩, HZ.out.trans (hb1.mono HZ.out.size)⟩
  clear HS HB HZ hM1 hb1
  go_wp2
  go_ret
  exact ⟨a, b, rfl, HE.out⟩
end
end Go.Proofs.YtcegianjpifnbaaGreat
