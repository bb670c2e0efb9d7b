/-
  The laws' helper: its work, its thread.
-/
import Derived.Test.YtoeilogakfggfaaCh10
namespace Go.Proofs.Ytoeilogakfggfaa
open Go.ChangeShapes Go.WideShapes Go.ChangeAt Go.RowKit
set_option linter.unusedVariables false
set_option linter.unusedSimpArgs false
set_option maxRecDepth 20000

/-- A record is done, or not: 1 or 0. -/
def tHlp (n : Int) : Tr (List Int) := (tHelpL n).bind fun b => .ret [b2i b]
section
variable {nds : List (Int × Nd)} {M L : Nat} {n : Int}
theorem kl_hlp (n : Int) : kpL nds M (tHlp n) := kpL_bind kl_help fun b => trivial
theorem tj_hlp (hn : in64 n) : tj nds M L (tHlp n) := tj_bind (t := tHelpL n) (fun r _ _ => (tame_help r hn).toJ) fun b => trivial
end
section
variable {nds : List (Int × Nd)} {M : Nat} {d : Wd} {R R' X X' : Nat → Prop} {w w' w0 wr w1 : World} {a st ph k me p q : Nat} {wk T : Value} {zs ws : List Int} {c : Cur} {s : Sig} {n r : Int} {nd : Nd} {e : Ending} {nw : Int}
set_option maxHeartbeats 4000000 in
theorem help1_walk {b1 : Nat} (hM : M ≤ 1000) (hR : R b1) (h1 : w.cell? ⟨b1, 0, none⟩ = some (.int .i64 n)) (h : Lv d R w a wk c s) (hP : Stt nds M s) :
    Calls Try.prog 34 #[tkV a d.W me, ptr b1] w (PostW d R w a wk idO (run (tHlp n) c s)) := by
  obtain ⟨W, p, hW, hp, bb, tk, hsz⟩ := one_box w a d.W me
  obtain ⟨o, ho⟩ : ∃ o, run (tHlp n) c s = o := ⟨_, rfl⟩
  rw [ho]
  have HB : Hid (BT (Stt nds M) d R (fun b => R b ∨ b = p) w a me wk p o ((tHelp (rcOf s.rs n) n).bind fun b => .ret [b2i b]) W c s) := by
    have : BT (Stt nds M) d R (fun b => R b ∨ b = p) w a me wk p o (tHlp n) W c s := by rw [← ho]; exact BT.begin_ h bb (fun b e => e.imp id fun e => by omega) (fun b e => e) tk hP
    exact BT.lk (K := fun r => (tHelp r n).bind fun b => .ret [b2i b]) this
  obtain ⟨hg, hn⟩ := HB.out.inv.rc n
  have hfew := HB.out.inv.few
  obtain ⟨r, hr⟩ : ∃ r, rcOf s.rs n = r := ⟨_, rfl⟩
  rw [hr] at HB hg hn
  have hks : kpL nds M (tHelp r n) := (ks_help r hn n : kpS nds M _).toL
  obtain ⟨ns, is, kp, wy, od, nw⟩ := r
  have HD := Lib.hid (record_touch (me := me) HB.out.lv hr hg.kp hg.len hg.few (by omega))
  have HKS := Lib.hid hks
  obtain ⟨t0, t1, t2⟩ := tk
  have g1 := below_read bb h1
  clear h bb hsz hP ho hR h1 hg hn hfew hr hks
  go_enter Try.func34, Try.ntmps34
  go_wp2_with fail
  (try rw [hW])
  refine HD.out.mono ?_
  clear HD t0 t1 t2 hW hp g1
  intro e w1 hPm
  rcases BT.call (K := fun b => (.ret [b2i b] : Tr (List Int))) HB.out (run_kpL HKS.out) hPm with ⟨b, c2, s2, rfl, -, hB, -⟩ | hx
  case inr => obtain ⟨rfl, hx⟩ := hx; exact ⟨rfl, Wts.postW ⟨rfl, hx⟩⟩
  clear hPm
  obtain ⟨X, g, hX, hb, bX, sX⟩ := one_num w1 (b2i b)
  have HE : Hid (PostW d R w a wk idO o (.returned (.slice (some ⟨g, 0, none⟩) 1 1)) X) := hB.postW bX sX (by simp)
  clear hB bX sX HB HKS
  cases b with
  | true =>
    have hX : w1.alloc (.cells #[.int .i64 1] i6T) = X := hX
    go_wp2
    (try rw [hX]); (try rw [hb])
    go_ret
    exact HE.out
  | false =>
    have hX : w1.alloc (.cells #[.int .i64 0] i6T) = X := hX
    go_wp2
    (try rw [hX]); (try rw [hb])
    go_ret
    exact HE.out
end
end Go.Proofs.Ytoeilogakfggfaa
