/-
  The work of law LlxStale's second thread: some nodes are loaded; are they still so?
-/
import Derived.Test.YtmhmgdpcibldlaaCh10
namespace Go.Proofs.Ytmhmgdpcibldlaa
open Go.ChangeShapes Go.WideShapes Go.ChangeAt Go.RowKit
set_option linter.unusedVariables false
set_option linter.unusedSimpArgs false
set_option maxRecDepth 20000

def tStl (prs : List (Int × Nd)) : Tr (List Int) := (tLoads [] prs).bind fun x => if x.2 = true then (tStill x.1).bind fun b => .ret [if b = true then 0 else 1] else .ret [0]
section
variable {nds : List (Int × Nd)} {M L : Nat} {s : Sig}
theorem kl_stl (prs : List (Int × Nd)) : kpL nds M (tStl prs) := kpL_bind (kl_loads [] prs) fun x => kl_if (kpL_bind (kl_still _) fun b => trivial) trivial
theorem good_stl (prs : List (Int × Nd)) (s : Sig) : good (tStl prs) s := by
  refine good_bind (good_loads [] prs s) fun x s' _ => ?_
  split
  · exact good_bind (good_still _ s') fun _ _ _ => trivial
  · exact trivial
theorem tj_still (l : List Sn) : tj nds M L (tStill l) := by
  induction l with
  | nil => exact trivial
  | cons x l ih => exact tj_doInfo fun y _ => tj_if ih trivial
theorem tj_stl (prs : List (Int × Nd)) : tj nds M L (tStl prs) := tj_bind (tj_loads [] prs) fun x => tj_if (tj_bind (tj_still _) fun b => trivial) trivial
end
section
variable {nds : List (Int × Nd)} {M : Nat} {d : Wd} {R R' X X' : Nat → Prop} {w w' w0 wr w1 : World} {a st ph k me p q : Nat} {wk T : Value} {zs ws : List Int} {c : Cur} {s : Sig} {n r : Int} {e : Ending}
set_option maxHeartbeats 8000000 in
theorem stale1_walk {A : Option Addr} {m c0 b1 : Nat} {prs : List (Int × Nd)} (hM : M ≤ 1000) (hx : ∀ x ∈ prs, x ∈ nds ∧ x.2.small) (hl : prs.length ≤ 20) (hs : Sl w A m c0 (prs.map Prod.fst)) (hA : ∀ ad, A = some ad → R ad.block)
    (h1 : w.cell? ⟨b1, 0, none⟩ = some (.slice A m c0)) (h : Lv d R w a wk c s) (hP : Stt nds M s) :
    Calls Try.prog 32 #[tkV a d.W me, ptr b1] w (PostW d R w a wk idO (run (tStl prs) c s)) := by
  obtain ⟨W, p, hW, hp, bb, tk, hsz⟩ := one_box w a d.W me
  obtain ⟨o, ho⟩ : ∃ o, run (tStl prs) c s = o := ⟨_, rfl⟩
  rw [ho]
  have HB : Hid (BT (Stt nds M) d R (fun b => R b ∨ b = p) w a me wk p o (tStl prs) W c s) := by
    show BT _ _ _ _ _ _ _ _ _ _ _ _ _ _
    rw [← ho]
    exact BT.begin_ h bb (fun b e => e.imp id fun e => by omega) (fun b e => e) tk hP
  have HD := Lib.hid (loads_touch (me := me) (R := fun b => R b ∨ b = p) hM hx (by omega) (hs.below bb) (fun ad e => .inl (hA ad e)) HB.out.lv HB.out.inv)
  obtain ⟨t0, t1, t2⟩ := tk
  have g1 := below_read bb h1
  clear h bb hsz hP ho hs hA h1 hx
  go_enter Try.func32, Try.ntmps32
  go_wp2_with fail
  (try rw [hW])
  refine HD.out.mono ?_
  clear HD t0 t1 t2 hW hp g1
  intro e w1 hPm
  rcases BT.callM (P := Stt nds M) (t := tLoads [] prs) (o := o) (K := fun x : List Sn × Bool => (if x.2 = true then (tStill x.1).bind fun b => .ret [if b = true then 0 else 1] else .ret [0] : Tr (List Int))) HB.out (run_kpL (kl_loads [] prs)) hPm with ⟨⟨l, ok⟩, c2, s2, v, Y, rfl, hrun, ⟨u, hv, hu⟩, hB, hKp, hYn⟩ | hx
  case inr => obtain ⟨rfl, hx⟩ := hx; exact ⟨rfl, Wts.postW ⟨rfl, hx⟩⟩
  have hll : l.length ≤ ([] : List Sn).length + prs.length := run_rets (Q := fun x : List Sn × Bool => x.1.length ≤ ([] : List Sn).length + prs.length) (rets_loads [] prs) hrun
  have hll2 : l.length ≤ 100 := by simp at hll; omega
  have hv : v = .tuple #[u, .bool ok] := hv
  have hu : SnL l Y w1 u := hu
  obtain ⟨A1, c1, rfl, -⟩ := hu.shape
  subst hv
  clear hPm HB hrun hll hKp
  cases ok with
  | false =>
    obtain ⟨X, b, hX, hb, bX, sX⟩ := one_num w1 0
    have hB2 : BT (Stt nds M) d R (fun b => (R b ∨ b = p) ∨ Y b) w a me wk p o (.ret [0]) w1 c2 s2 := hB
    have HE : Hid (PostW d R w a wk idO o (.returned (.slice (some ⟨b, 0, none⟩) 1 1)) X) := hB2.postW bX sX (by simp)
    clear hB hB2 hu bX sX hYn
    go_wp2
    (try rw [hX]); (try rw [hb])
    go_ret
    exact HE.out
  | true =>
    have HB2 : Hid (BT (Stt nds M) d R (fun b => (R b ∨ b = p) ∨ Y b) w a me wk p o ((tStill l).bind fun b => .ret [if b = true then 0 else 1]) w1 c2 s2) := hB
    have HD := Lib.hid (still_touch (me := me) (R := fun b => (R b ∨ b = p) ∨ Y b) hu (fun b e => .inr e) hll2 HB2.out.lv HB2.out.inv)
    obtain ⟨t0, t1, t2⟩ := HB2.out.tk
    clear hB hu hYn
    go_wp2_with fail
    refine HD.out.mono ?_
    clear HD t0 t1 t2
    intro e w2 hP
    rcases BT.call (K := fun b => (.ret [if b = true then 0 else 1] : Tr (List Int))) HB2.out (run_kpL (kl_still l)) hP with ⟨y, c3, s3, rfl, -, hB, hKp⟩ | hx
    case inr => obtain ⟨rfl, hx⟩ := hx; exact ⟨rfl, Wts.postW ⟨rfl, hx⟩⟩
    clear hP HB2 hKp
    cases y with
    | true =>
      obtain ⟨X, b, hX, hb, bX, sX⟩ := one_num w2 0
      have hB2 : BT (Stt nds M) d R (fun b => (R b ∨ b = p) ∨ Y b) w a me wk p o (.ret [0]) w2 c3 s3 := hB
      have HE : Hid (PostW d R w a wk idO o (.returned (.slice (some ⟨b, 0, none⟩) 1 1)) X) := hB2.postW bX sX (by simp)
      clear hB hB2 bX sX
      go_wp2
      (try rw [hX]); (try rw [hb])
      go_ret
      exact HE.out
    | false =>
      obtain ⟨X, b, hX, hb, bX, sX⟩ := one_num w2 1
      have hB2 : BT (Stt nds M) d R (fun b => (R b ∨ b = p) ∨ Y b) w a me wk p o (.ret [1]) w2 c3 s3 := hB
      have HE : Hid (PostW d R w a wk idO o (.returned (.slice (some ⟨b, 0, none⟩) 1 1)) X) := hB2.postW bX sX (by simp)
      clear hB hB2 bX sX
      go_wp2
      (try rw [hX]); (try rw [hb])
      go_ret
      exact HE.out
end
/-! Steps that read alone: what is left behind j of them. -/
def itN (s : Sig) : Nat → Ts → Ts
  | 0, o => o
  | j + 1, o => itN s j (nxT o s).1
theorem itN_succ (s : Sig) (j : Nat) (o : Ts) : itN s (j + 1) o = (nxT (itN s j o) s).1 := by
  induction j generalizing o with
  | zero => rfl
  | succ j ih => exact ih _
end Go.Proofs.Ytmhmgdpcibldlaa
