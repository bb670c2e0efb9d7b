/-
  Budgets of Load's trees; a law's thread that goes on alone; a thread that looks at a node.
-/
import Derived.Test.YtcegianjpifnbaaGreatWk10
namespace Go.Proofs.YtcegianjpifnbaaGreat
open Go.ChangeShapes Go.WideShapes Go.ChangeAt Go.RowKit
set_option linter.unusedVariables false
set_option linter.unusedSimpArgs false
set_option maxRecDepth 20000

/-- A tree whose touches keep the budget, as long as what stays stays. -/
def tj {α : Type} (nds : List (Int × Nd)) (M L : Nat) : Tr α → Prop
  | .ret _ => True
  | .tch g K => (∀ B s, Inv L (B + 1) s → Stt nds M s → Inv L B (g s).2 ∧ in64 (g s).1) ∧ ∀ z, in64 z → tj nds M L (K z)
  | .lk _ K => ∀ r, GoodR r → in64 r.nw → tj nds M L (K r)
section
variable {α β : Type} {nds : List (Int × Nd)} {M L : Nat} {r n k : Int}
theorem tj_bind {t : Tr α} {K : α → Tr β} (h : tj nds M L t) (hK : ∀ v, tj nds M L (K v)) : tj nds M L (t.bind K) := by
  induction t with
  | ret v => exact hK v
  | tch g K' ih => exact ⟨h.1, fun z hz => ih z (h.2 z hz)⟩
  | lk n K' ih => exact fun r h1 h2 => ih r (h r h1 h2)
theorem tame.toJ {t : Tr α} (h : tame L t) : tj nds M L t := by
  induction t with
  | ret v => exact trivial
  | tch g K ih => exact ⟨fun B s h1 _ => h.1 B s h1, fun z hz => ih z (h.2 z hz)⟩
  | lk n K ih => exact fun r _ _ => ih r (h r)
theorem tj_all {t : Tr α} (ht : tj nds M L t) (hk : kpL nds M t) : ∀ (s : Sig) (B : Nat), Stt nds M s → Inv L (B + (ev t s).2.2) s → all (Inv L 0) t s ∧ Inv L B (ev t s).2.1 := by
  induction t with
  | ret v => intro s B _ h; exact ⟨h.mono (Nat.zero_le _), h⟩
  | tch g K ih =>
    intro s B hS h
    simp only [ev] at h
    have h1 := ht.1 (B + (ev (K (g s).1) (g s).2).2.2) s (by rw [Nat.add_assoc]; exact h) hS
    have h2 := ih (g s).1 (ht.2 _ h1.2) (hk.2 _) (g s).2 B (hk.1 s hS) h1.1
    exact ⟨⟨h.mono (Nat.zero_le _), h2.1⟩, h2.2⟩
  | lk n K ih => intro s B hS h; exact ih _ (ht _ (hS.rc n).1 (hS.rc n).2) (hk _ (hS.rc n).1 (hS.rc n).2) s B hS h
theorem tj_mark {K : Int → Tr α} (hK : ∀ z, in64 z → tj nds M L (K z)) : tj nds M L (.tch (gMark r) K) := ⟨fun B s h _ => ⟨inv_with h (fun i p hp => .inl rfl), in_01 (mark_01 r s)⟩, hK⟩
theorem tj_info {K : Int → Tr α} (hK : ∀ z, in64 z → tj nds M L (K z)) : tj nds M L (.tch (gInfo r) K) := ⟨fun B s h _ => ⟨inv_with h (fun i p hp => .inl rfl), info_in h.fit r⟩, hK⟩
theorem tj_state {K : Int → Tr α} (hK : ∀ z, in64 z → tj nds M L (K z)) : tj nds M L (.tch (gState n) K) := ⟨fun B s h _ => ⟨by rw [gState_eq]; exact h.mono (by omega), state_in n s⟩, hK⟩
theorem tj_way {K : Int → Tr α} (hK : ∀ z, in64 z → tj nds M L (K z)) : tj nds M L (.tch (gWay r k) K) := ⟨fun B s h hS => ⟨inv_with h (fun i p hp => .inl rfl), way_in hS.win r k⟩, hK⟩
theorem tj_doInfo {K : Int → Tr α} (hK : ∀ z, in64 z → tj nds M L (K z)) : tj nds M L ((tDo (gInfo r)).bind K) := ⟨(tj_info (K := K) hK).1, hK⟩
theorem tj_doWay {K : Int → Tr α} (hK : ∀ z, in64 z → tj nds M L (K z)) : tj nds M L ((tDo (gWay r k)).bind K) := ⟨(tj_way (K := K) hK).1, hK⟩
theorem tj_tMark : tj nds M L (tMark r) := tj_mark fun _ _ => trivial
theorem tj_tState : tj nds M L (tState n) := tj_state fun _ _ => trivial
theorem tj_if {p : Prop} [Decidable p] {t u : Tr α} (ht : tj nds M L t) (hu : tj nds M L u) : tj nds M L (if p then t else u) := by split <;> assumption
theorem tj_bring (hn : in64 n) : tj nds M L (tBring n) := tj_bind tj_tState fun st => tj_if trivial (tj_if (fun r _ _ => (tame_help r hn).toJ) trivial)
theorem tj_ways (r : Int) (k i : Nat) (ws : List Int) : tj nds M L (tWays r k i ws) := by
  induction k generalizing i ws with
  | zero => exact trivial
  | succ k ih => exact tj_doWay fun z _ => ih _ _
theorem tj_read (r n : Int) (nd : Nd) : tj nds M L (tRead r n nd) := tj_bind (tj_ways _ _ _ _) fun ws => tj_doInfo fun y _ => trivial
theorem tj_rest (hn : in64 n) (m : Bool) : tj nds M L (tRest r n m) := tj_bind (tj_bring hn) fun b => tj_if trivial (tj_doInfo fun n2 h2 => tj_bind (tj_bring h2) fun _ => trivial)
theorem tj_load (r : Int) (nd : Nd) : tj nds M L (tLoad r nd) := tj_bind tj_tMark fun m => tj_doInfo fun n hn => tj_bind tj_tState fun st => tj_bind tj_tMark fun m2 => tj_if (tj_bind (tj_read r n nd) fun x => tj_if trivial (tj_rest hn m)) (tj_rest hn m)
theorem tj_look (r : Int) (nd : Nd) : tj nds M L (tLook r nd) := tj_bind (tj_load r nd) fun x => trivial
theorem kl_look (r : Int) (nd : Nd) : kpL nds M (tLook r nd) := kpL_bind (kl_load r nd) fun x => trivial
theorem good_look (r : Int) (nd : Nd) (s : Sig) : good (tLook r nd) s := good_bind (good_load r nd s) fun x s' _ => trivial
end
section
variable {W : World} {X : Nat → Prop} {d : Wd} {n T i L M Mx : Nat} {hs : Nat → Hp} {os : Nat → Ts} {s s' : Sig} {w w' : World} {nds : List (Int × Nd)} {t : Tr (List Int)} {nd : Nd} {r : Int}
/-- Thread i alone, from its beginning to its end. -/
theorem MB.alone {v : List Int} {k : Nat} {kz : Int} (h : MB W X d n T hs os s w) (hi : i < n) (ho : os i = .run (nrm t s)) (hp : (hs i).P = Stt nds Mx) (hI : Inv L (M + 1) s) (hS : Stt nds Mx s) (ht : tj nds Mx L t) (hk : kpL nds Mx t) (hg : good t s) (hev : ev t s = (v, s', k)) (hT : T + M ≤ 430) (hm : k ≤ M) (hlen : v.length ≤ 1000) (hkz : ((max k 1 : Nat) : Int) = kz) :
    Calls Tryz.prog 12 #[ptr (hs i).a] w fun e w' => ∃ A q c, e = .returned (.tuple #[.slice A q c, .int .i64 kz, .bool true]) ∧ Row 2 w.heap.size w' (.slice A q c) v ∧ MB W X d n (T + M + 1) hs (upd os i (.fin v)) s' w' ∧ Kp (RX W X) w w' := by
  have ha := (tj_all ht hk s 0 hS (hI.mono (by rw [hev]; simp only; omega))).1
  have hall : all (fun s => (hs i).P s ∧ Fit s) t s := by
    rw [hp]
    exact all_and (all_kpL hk hS) (all_mono (fun s h => h.fit) ha)
  have hev' := hev
  rw [ev_nrm t s] at hev'
  have := h.me.aloneM (M := M) hi ho (nl_nrm t s) (all_nrm hall) (okT_nrm (good_okT hg)) hT (by rw [hev']; exact hm) (by rw [hev']; exact hlen)
  rw [hev'] at this
  simp only [hkz] at this
  refine this.mono ?_
  rintro e w' ⟨A, q, c, rfl, h1, h2, h3⟩
  exact ⟨A, q, c, rfl, h1, h.kp h2 h3, h3⟩
/-- Out of a thread at its end. -/
theorem MB.out {v : List Int} (h : MB W X d n T hs os s w) (hi : i < n) (ho : os i = .fin v) (hl : v.length ≤ 1000) : Calls Tryz.prog 30 #[ptr (hs i).a] w fun e w' => ∃ A m q, e = .returned (.slice A m q) ∧ Row 2 w.heap.size w' (.slice A m q) v ∧ Below w.heap.size w w' := h.me.out hi ho hl
/-- What a thread's one number is. -/
theorem MB.came {z : Int} (h : MB W X d n T hs os s w) (hi : i < n) (ho : os i = .fin [z]) : Calls Tryz.prog 14 #[ptr (hs i).a] w fun e w' => e = .returned (.int .i64 z) ∧ Below w.heap.size w w' := by
  have HO := Lib.hid (h.out hi ho (by simp))
  clear h hi ho
  go_enter Tryz.func14, Tryz.ntmps14
  go_wp2_with fail
  refine HO.out.mono ?_
  rintro e w1 ⟨A, q, c, rfl, r1, r2⟩
  have hs := r1.sl
  obtain rfl : q = 1 := hs.len
  obtain ⟨g, off, rfl, hg, hc⟩ := hs.at_ (k := 0) (by simp)
  have hc : w1.cell? ⟨g, off, none⟩ = some (.int .i64 z) := hc
  have HE := Lib.hid r2
  clear HO r1 r2 hs hg
  go_wp2
  go_ret
  exact ⟨rfl, HE.out⟩
end
end Go.Proofs.YtcegianjpifnbaaGreat
