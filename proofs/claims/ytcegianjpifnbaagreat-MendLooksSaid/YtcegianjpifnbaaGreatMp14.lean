/-
  Mend's Path where all is right on the way; a thread that mends.
-/
import Derived.Test.YtcegianjpifnbaaGreatMf14
namespace Go.Proofs.YtcegianjpifnbaaGreat
open Go.ChangeShapes Go.WideShapes Go.ChangeAt Go.RowKit
set_option linter.unusedVariables false
set_option linter.unusedSimpArgs false
set_option maxRecDepth 20000

def tMb (nds : List (Int × Nd)) (rk : Int → Nat) (key : Int) (f : Nat) (en : Int) : Tr Bool := (tPath nds rk key f en []).bind fun _ => .ret false
section
variable {β : Type} {nds : List (Int × Nd)} {rk : Int → Nat} {M mo D : Nat} {d : Wd} {R : Nat → Prop} {w : World} {a me : Nat} {wk : Value} {c : Cur} {s : Sig} {key : Int}
abbrev blV (b : Bool) : Value := .bool b
theorem kp_mb : (tMb nds rk key (D + 1) d.en).keeps (SkI nds rk M mo) := keeps_bind (kp_path _ _ _) fun _ => trivial
set_option maxHeartbeats 4000000 in
theorem mpath_touch {K : Bool → Tr β} (hN : NdsOk nds) (hmo : mo ≤ 70000) (hD : D ≤ mo) (hen : (nds.lookup d.en).isSome = true ∧ rk d.en ≤ D) (hRt : rets (fun l => RightL d.a l) (tPath nds rk key (D + 1) d.en [])) (h : Lv d R w a wk c s) (hP : SkI nds rk M mo s) (hpt : c.live = true → path ((tMb nds rk key (D + 1) d.en).bind K) (c.zs.drop c.k) s) :
    Calls Tryz.prog 28 #[tkV a d.W me, .int .i64 key] w (Post d R w a wk blV (run (tMb nds rk key (D + 1) d.en) c s)) := by
  have HRL := Lib.hid h.lt
  obtain ⟨W, p, hW, hp, bb, tk, hsz⟩ := one_box w a d.W me
  obtain ⟨o, ho⟩ : ∃ o, run (tMb nds rk key (D + 1) d.en) c s = o := ⟨_, rfl⟩
  rw [ho]
  have HB : Hid (BT (SkI nds rk M mo) d R (fun b => R b ∨ b = p) w a me wk p o (tMb nds rk key (D + 1) d.en) W c s) := by
    show BT _ _ _ _ _ _ _ _ _ _ _ _ _ _
    rw [← ho]
    exact BT.begin_ h bb (fun b e => e.imp id fun e => by omega) (fun b e => e) tk hP
  have HD := Lib.hid (path_touch (me := me) (K := fun l => ((.ret false : Tr Bool).bind K : Tr β)) hN hmo hD hen HB.out.lv HB.out.inv (fun hl => by have := hpt hl; unfold tMb at this; rw [Tr.bind_bind] at this; exact this))
  have HRT := Lib.hid hRt
  have hd1 : D + 1 ≤ 100000 := by omega
  obtain ⟨t0, t1, t2⟩ := tk
  clear h bb hsz hP ho hpt hN hen hD hRt
  go_enter Tryz.func28, Tryz.ntmps28
  go_wp2_with fail
  (try rw [hW])
  clear hW hp
  go_loopg [] 1 (fun gk wr => gk = 1 ∧ wr = W)
  case atStart => exact ⟨rfl, rfl⟩
  case round =>
    obtain ⟨-, rfl⟩ := hrel
    go_wp2_with fail
    refine HD.out.mono ?_
    clear HD
    intro e w1 hPm
    rcases BT.callM (P := SkI nds rk M mo) (t := tPath nds rk key (D + 1) d.en []) (o := o) (K := fun l : List Sp => (.ret false : Tr Bool)) HB.out (keeps_kpP (kp_path _ _ _)) hPm with ⟨l, c2, s2, v, Y, rfl, hrun, hu, hB, hKp, hYn⟩ | hx
    case inr => obtain ⟨rfl, hx⟩ := hx; exact ⟨rfl, Wts.post ⟨rfl, hx⟩⟩
    have hlen : l.length ≤ ([] : List Sp).length + (D + 1) := run_rets (Q := fun l => l.length ≤ ([] : List Sp).length + (D + 1)) (rets_path (D + 1) d.en []) hrun
    rw [List.length_nil, Nat.zero_add] at hlen
    have hri : RightL d.a l := run_rets (Q := fun l => RightL d.a l) HRT.out hrun
    have hu : SpL l Y w1 v := hu
    obtain ⟨A4, q4, rfl, -⟩ := hu.shape
    have hW3 : w1.cell? ⟨d.W, 3, none⟩ = some (.int .i64 d.a) := by
      obtain ⟨F, FW, T, h1, h2, -, -⟩ := hB.lv.lv
      exact h2.cells.2.2.2.1
    have HF := Lib.hid (first_walk (a := a) (W := d.W) (me := me) hu rfl (by omega) hW3 hri (fun b e => hB.lv.lt b (.inr e)))
    have HBB := Lib.hid hB
    obtain ⟨u0, u1, u2⟩ := hB.tk
    clear hB hKp hYn hu hPm HB HRL hrun hri hW3 HRT t0 t1 t2
    dsimp only
    go_wp2_with fail
    refine HF.out.mono ?_
    clear HF
    rintro e w2 ⟨rfl, h2⟩
    have HE : Hid (Post d R w a wk blV o (.returned (.bool false)) w2) := by
      have hB := HBB.out.below h2
      show Post _ _ _ _ _ _ _ _ _
      rw [hB.rn]
      exact ⟨hB.kp, rfl, hB.lv.mono fun b e => hB.sub b (.inl e)⟩
    clear HBB h2
    go_wp2
    go_ret
    exact HE.out
end
end Go.Proofs.YtcegianjpifnbaaGreat
