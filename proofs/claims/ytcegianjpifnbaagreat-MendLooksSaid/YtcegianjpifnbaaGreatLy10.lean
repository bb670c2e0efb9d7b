/-
  What is kept by all touches: nodes' own parts, records. Trees of Load; bringToEnd within work.
-/
import Derived.Test.YtcegianjpifnbaaGreatLx10
namespace Go.Proofs.YtcegianjpifnbaaGreat
open Go.ChangeShapes Go.WideShapes Go.ChangeAt Go.RowKit
set_option linter.unusedVariables false
set_option linter.unusedSimpArgs false
set_option maxRecDepth 20000

/-- A record that may be. -/
structure GoodR (r : Rc) : Prop where
  kp : 0 ≤ r.kp
  len : r.ns.length = r.is.length
  few : r.ns.length ≤ 20
theorem GoodR.nil : GoodR Rc.nil := ⟨by decide, rfl, by decide⟩
/-- What stays: of these nodes what doesn't change; records as they may be, M at most; ways that can be told. -/
structure Stt (nds : List (Int × Nd)) (M : Nat) (s : Sig) : Prop where
  nod : ∀ x ∈ nds, ∃ i p, s.ar.hit x.1 = some (i, p) ∧ p.nd = x.2
  rcs : ∀ x ∈ s.rs, GoodR x.rc ∧ in64 x.rc.nw
  few : s.rs.length ≤ M
  win : WaysIn s
  len : s.ar.pls.length ≤ 70000
  cnt : ∀ p ∈ s.ar.pls, p.cnt ≤ 1000000
section
variable {nds : List (Int × Nd)} {M : Nat} {s : Sig} {r n o k : Int}
theorem Stt.rc (h : Stt nds M s) (n : Int) : GoodR (rcOf s.rs n) ∧ in64 (rcOf s.rs n).nw := by
  unfold rcOf
  split
  · rename_i i x hx
    exact h.rcs x (List.mem_of_getElem? (rcAt_some hx).1)
  · exact ⟨GoodR.nil, by unfold in64; simp [Rc.nil]⟩
theorem hit_put {S : As} {i j : Nat} {p p' q : Pa} {r : Int} (hp : S.pls[i]? = some p) (h : S.hit r = some (j, q)) (hc : p'.cnt = p.cnt) (hu : p'.used = p.used) : ∃ q', (S.put i p').hit r = some (j, q') ∧ (j = i → q' = p') ∧ (j ≠ i → q' = q) := by
  unfold As.hit at h ⊢
  simp only [As.put]
  split at h
  · rename_i q0 hq0
    split at h
    · rename_i hh
      injection h with h
      injection h with h1 h2
      subst h1 h2
      by_cases e : i = (pl r).toNat
      · subst e
        rw [hp] at hq0
        injection hq0 with hq0
        subst hq0
        have hl := (List.getElem?_eq_some_iff.1 hp).1
        rw [List.getElem?_set_self hl]
        simp only
        rw [hu, hc, if_pos hh]
        exact ⟨p', rfl, fun _ => rfl, fun e => absurd rfl e⟩
      · rw [List.getElem?_set_ne e, hq0]
        simp only
        rw [if_pos hh]
        exact ⟨q0, rfl, fun e2 => absurd e2.symm e, fun _ => rfl⟩
    · cases h
  · cases h
theorem Stt.with_ {F : Nat → Pa → Int × As} (h : Stt nds M s) (hF : ∀ i p, s.ar.pls[i]? = some p → (F i p).2 = s.ar ∨ ∃ p', (F i p).2 = s.ar.put i p' ∧ p'.cnt = p.cnt ∧ p'.used = p.used ∧ p'.nd = p.nd ∧ ((∀ z ∈ p.ws, in64 z) → ∀ z ∈ p'.ws, in64 z)) : Stt nds M { s with ar := (s.ar.with r F).2 } := by
  unfold As.with
  split
  · rename_i i p hh
    have hp := (hit_some hh).1
    rcases hF i p hp with e | ⟨p', e, e1, e2, e3, e4⟩
    · rw [e]; exact h
    · rw [e]
      refine ⟨fun x hx => ?_, h.rcs, h.few, fun q hq => ?_, by simp only [As.put, List.length_set]; exact h.len, fun q hq => ?_⟩
      · obtain ⟨j, q, h1, h2⟩ := h.nod x hx
        obtain ⟨q', k1, k2, k3⟩ := hit_put hp h1 e1 e2
        refine ⟨j, q', k1, ?_⟩
        by_cases ej : j = i
        · rw [k2 ej, e3]
          have := (hit_some h1).1
          rw [ej, hp] at this
          injection this with this
          rw [this]; exact h2
        · rw [k3 ej]; exact h2
      · rcases List.mem_or_eq_of_mem_set hq with hq | rfl
        · exact h.win q hq
        · exact e4 (h.win p (List.mem_of_getElem? hp))
      · rcases List.mem_or_eq_of_mem_set hq with hq | rfl
        · exact h.cnt q hq
        · rw [e1]; exact h.cnt p (List.mem_of_getElem? hp)
  · exact ⟨h.nod, h.rcs, h.few, h.win, h.len, h.cnt⟩
theorem mem_setRe {l : List Re} {n : Int} {f : Re → Re} (hf : ∀ x, (f x).rc = x.rc) {y : Re} (hy : y ∈ setRe l n f) : ∃ x ∈ l, x.rc = y.rc := by
  unfold setRe at hy
  split at hy
  · rename_i i x hx
    rcases List.mem_or_eq_of_mem_set hy with hy | rfl
    · exact ⟨y, hy, rfl⟩
    · exact ⟨x, List.mem_of_getElem? (rcAt_some hx).1, (hf x).symm⟩
  · exact ⟨y, hy, rfl⟩
theorem setRe_len (l : List Re) (n : Int) (f : Re → Re) : (setRe l n f).length = l.length := by
  unfold setRe
  split
  · rw [List.length_set]
  · rfl
theorem Stt.set_ {f : Re → Re} (h : Stt nds M s) (hf : ∀ x, (f x).rc = x.rc) : Stt nds M { s with rs := setRe s.rs n f } :=
  ⟨h.nod, fun y hy => by obtain ⟨x, hx, e⟩ := mem_setRe hf hy; rw [← e]; exact h.rcs x hx, by show (setRe s.rs n f).length ≤ M; rw [setRe_len]; exact h.few, h.win, h.len, h.cnt⟩
end
section
variable {α β : Type} {nds : List (Int × Nd)} {M : Nat} {r n o k : Int}
abbrev kpS (nds : List (Int × Nd)) (M : Nat) (t : Tr α) : Prop := t.keeps (Stt nds M)
theorem ks_ret (v : α) : kpS nds M (.ret v) := trivial
theorem ks_mark {K : Int → Tr α} (hK : ∀ z, kpS nds M (K z)) : kpS nds M (.tch (gMark r) K) := ⟨fun s h => h.with_ fun i p hp => .inl rfl, hK⟩
theorem ks_info {K : Int → Tr α} (hK : ∀ z, kpS nds M (K z)) : kpS nds M (.tch (gInfo r) K) := ⟨fun s h => h.with_ fun i p hp => .inl rfl, hK⟩
theorem ks_way {K : Int → Tr α} (hK : ∀ z, kpS nds M (K z)) : kpS nds M (.tch (gWay r k) K) := ⟨fun s h => h.with_ fun i p hp => .inl rfl, hK⟩
theorem ks_state {K : Int → Tr α} (hK : ∀ z, kpS nds M (K z)) : kpS nds M (.tch (gState n) K) := ⟨fun s h => by rw [gState_eq]; exact h, hK⟩
theorem ks_all {K : Int → Tr α} (hK : ∀ z, kpS nds M (K z)) : kpS nds M (.tch (gAll n) K) := ⟨fun s h => h, hK⟩
theorem ks_setAll {K : Int → Tr α} (hK : ∀ z, kpS nds M (K z)) : kpS nds M (.tch (gSetAll n) K) := ⟨fun s h => h.set_ fun x => rfl, hK⟩
theorem ks_set {t : Int} {K : Int → Tr α} (hK : ∀ z, kpS nds M (K z)) : kpS nds M (.tch (gSet n t) K) := ⟨fun s h => h.set_ fun x => rfl, hK⟩
theorem ks_swapInfo {K : Int → Tr α} (hK : ∀ z, kpS nds M (K z)) : kpS nds M (.tch (gSwapInfo r o n) K) := ⟨fun s h => h.with_ fun i p hp => by
  by_cases e : p.info = o
  · exact .inr ⟨{ p with info := n }, by rw [if_pos e], rfl, rfl, rfl, fun h => h⟩
  · exact .inl (by rw [if_neg e]), hK⟩
theorem ks_setMark {K : Int → Tr α} (hK : ∀ z, kpS nds M (K z)) : kpS nds M (.tch (gSetMark r) K) := ⟨fun s h => h.with_ fun i p hp => .inr ⟨{ p with mark := true }, rfl, rfl, rfl, rfl, fun h => h⟩, hK⟩
theorem ks_swapWay {nw : Int} {K : Int → Tr α} (hn : in64 nw) (hK : ∀ z, kpS nds M (K z)) : kpS nds M (.tch (gSwapWay r k o nw) K) := ⟨fun s h => h.with_ fun i p hp => by
  by_cases e : hasB p.ws.length k = true ∧ wayAt p k = o
  · exact .inr ⟨{ p with ws := p.ws.set k.toNat nw }, by rw [if_pos e], rfl, rfl, rfl, fun h z hz => by
      rcases List.mem_or_eq_of_mem_set hz with hz | rfl
      · exact h z hz
      · exact hn⟩
  · exact .inl (by rw [if_neg e]), hK⟩
theorem ks_ite {b : Bool} {t u : Tr α} (ht : kpS nds M t) (hu : kpS nds M u) : kpS nds M (if b = true then t else u) := by cases b <;> assumption
theorem ks_bind {t : Tr α} {K : α → Tr β} (ht : kpS nds M t) (hK : ∀ v, kpS nds M (K v)) : kpS nds M (t.bind K) := keeps_bind ht hK
theorem ks_tSet (n t : Int) : kpS nds M (tSet n t) := ks_set fun _ => trivial
theorem ks_marks {F : Tr Unit} (hF : kpS nds M F) (l : List Int) : kpS nds M (tMarks F l) := by
  induction l with
  | nil => exact hF
  | cons r l ih => exact ks_setMark fun _ => ih
theorem ks_finish (r : Rc) (hn : in64 r.nw) (n : Int) : kpS nds M (tFinish r n) := by
  refine ks_setAll fun _ => ks_marks ?_ _
  unfold tWay
  split
  · exact ks_tSet n 2
  · exact ks_swapWay hn fun _ => ks_tSet n 2
theorem ks_settle (n : Int) : kpS nds M (tSettle n) := ks_all fun z => ks_ite trivial (ks_bind (ks_tSet n 0) fun _ => trivial)
theorem ks_takes (r : Rc) (hn : in64 r.nw) (n : Int) (l : List (Int × Int)) : kpS nds M (tTakes r n l) := by
  induction l with
  | nil => exact ks_bind (ks_finish r hn n) fun _ => trivial
  | cons p l ih => exact ks_bind (ks_swapInfo fun z => ks_ite trivial (ks_info fun _ => trivial)) fun b => ks_ite ih (ks_settle n)
theorem ks_help (r : Rc) (hn : in64 r.nw) (n : Int) : kpS nds M (tHelp r n) := ks_takes r hn n _
end
/-! Load's trees. -/
/-- A record, be it helped, to its end: was it done? -/
def tHelpL (n : Int) : Tr Bool := .lk n fun r => tHelp r n
def tBring (n : Int) : Tr Bool := (tState n).bind fun st => if st = 2 then .ret true else if st = 1 then tHelpL n else .ret false
/-- A node as it was. -/
structure Sn where
  rf : Int
  inf : Int
  nd : Nd
  ws : List Int
def Sn.nil : Sn := ⟨0, 0, Nd.nil, []⟩
def tWays (r : Int) : Nat → Nat → List Int → Tr (List Int)
  | 0, _, ws => .ret ws
  | k + 1, i, ws => (tDo (gWay r i)).bind fun z => tWays r k (i + 1) (ws ++ [z])
def tRead (r n : Int) (nd : Nd) : Tr (Sn × Bool) := (tWays r nd.zs.length 0 []).bind fun ws => (tDo (gInfo r)).bind fun y => .ret (⟨r, n, nd, ws⟩, y == n)
def tRest (r n : Int) (m : Bool) : Tr (Sn × Int) := (tBring n).bind fun b => if (b && m) = true then .ret (Sn.nil, 2) else (tDo (gInfo r)).bind fun n2 => (tBring n2).bind fun _ => .ret (Sn.nil, 1)
def tLoad (r : Int) (nd : Nd) : Tr (Sn × Int) := (tMark r).bind fun m => (tDo (gInfo r)).bind fun n => (tState n).bind fun st => (tMark r).bind fun m2 =>
  if st = 0 ∨ st = 2 ∧ m2 = false then (tRead r n nd).bind fun x => if x.2 = true then .ret (x.1, 0) else tRest r n m else tRest r n m
/-- The looked-at record's part of what is kept: behind a look, of the record that was looked at. -/
def kpL {α : Type} (nds : List (Int × Nd)) (M : Nat) : Tr α → Prop
  | .ret _ => True
  | .tch g K => (∀ s, Stt nds M s → Stt nds M (g s).2) ∧ ∀ z, kpL nds M (K z)
  | .lk _ K => ∀ r, GoodR r → in64 r.nw → kpL nds M (K r)
section
variable {α β : Type} {nds : List (Int × Nd)} {M : Nat} {r n o k : Int}
theorem kpS.toL {t : Tr α} (h : kpS nds M t) : kpL nds M t := by
  induction t with
  | ret v => exact trivial
  | tch g K ih => exact ⟨h.1, fun z => ih z (h.2 z)⟩
  | lk n K ih => exact fun r _ _ => ih r (h r)
theorem kpL_bind {t : Tr α} {K : α → Tr β} (ht : kpL nds M t) (hK : ∀ v, kpL nds M (K v)) : kpL nds M (t.bind K) := by
  induction t with
  | ret v => exact hK v
  | tch g K' ih => exact ⟨ht.1, fun z => ih z (ht.2 z)⟩
  | lk n K' ih => exact fun r h1 h2 => ih r (ht r h1 h2)
theorem run_kpL {t : Tr α} {c c' : Cur} {s s' : Sig} {v : α} (ht : kpL nds M t) (hs : Stt nds M s) (h : run t c s = .ret v c' s') : Stt nds M s' := by
  induction t generalizing c s with
  | ret v => simp only [run] at h; injection h with _ _ h; exact h ▸ hs
  | tch g K ih =>
    simp only [run] at h
    split at h
    · split at h
      · exact ih _ (ht.2 _) hs h
      · exact ih _ (ht.2 _) (ht.1 s hs) h
    · cases h
  | lk n K ih => exact ih _ (ht _ (hs.rc n).1 (hs.rc n).2) hs h
theorem kl_ite {b : Bool} {t u : Tr α} (ht : kpL nds M t) (hu : kpL nds M u) : kpL nds M (if b = true then t else u) := by cases b <;> assumption
theorem kl_if {p : Prop} [Decidable p] {t u : Tr α} (ht : kpL nds M t) (hu : kpL nds M u) : kpL nds M (if p then t else u) := by split <;> assumption
theorem kl_mark : kpL nds M (tMark r) := kpS.toL (t := tMark r) (ks_mark (K := fun z => .ret (z != 0)) fun _ => trivial)
theorem kl_info : kpL nds M (tDo (gInfo r)) := kpS.toL (t := tDo (gInfo r)) (ks_info (K := .ret) fun _ => trivial)
theorem kl_way : kpL nds M (tDo (gWay r k)) := kpS.toL (t := tDo (gWay r k)) (ks_way (K := .ret) fun _ => trivial)
theorem kl_state : kpL nds M (tState n) := kpS.toL (t := tState n) (ks_state (K := fun z => .ret (u8w z)) fun _ => trivial)
theorem kl_help : kpL nds M (tHelpL n) := fun r h1 h2 => (ks_help r h2 n : kpS nds M _).toL
theorem kl_bring : kpL nds M (tBring n) := kpL_bind kl_state fun st => kl_if trivial (kl_if kl_help trivial)
theorem kl_ways (r : Int) (k i : Nat) (ws : List Int) : kpL nds M (tWays r k i ws) := by
  induction k generalizing i ws with
  | zero => exact trivial
  | succ k ih => exact kpL_bind kl_way fun z => ih _ _
theorem kl_read (r n : Int) (nd : Nd) : kpL nds M (tRead r n nd) := kpL_bind (kl_ways _ _ _ _) fun ws => kpL_bind kl_info fun y => trivial
theorem kl_rest (r n : Int) (m : Bool) : kpL nds M (tRest r n m) := kpL_bind kl_bring fun b => kl_ite trivial (kpL_bind kl_info fun n2 => kpL_bind kl_bring fun _ => trivial)
theorem kl_load (r : Int) (nd : Nd) : kpL nds M (tLoad r nd) := kpL_bind kl_mark fun m => kpL_bind kl_info fun n => kpL_bind kl_state fun st => kpL_bind kl_mark fun m2 => kl_if (kpL_bind (kl_read _ _ _) fun x => kl_ite trivial (kl_rest _ _ _)) (kl_rest _ _ _)
end
section
variable {nds : List (Int × Nd)} {M : Nat} {α β : Type} {d : Wd} {R R' X X' : Nat → Prop} {w w' w0 wr w1 : World} {a st ph k me p : Nat} {wk : Value} {zs : List Int} {c : Cur} {s : Sig} {n : Int} {o : Out α} {e : Ending}
set_option maxHeartbeats 1000000 in
theorem lbring_touch (h : Lv d R w a wk c s) (hP : Stt nds M s) (hM : M ≤ 1000) :
    Calls Tryz.prog 116 #[tkV a d.W me, .int .i64 n] w (Post d R w a wk bV (run (tBring n) c s)) := by
  obtain ⟨W, p, hW, hp, bb, tk, hsz⟩ := one_box w a d.W me
  obtain ⟨o, ho⟩ : ∃ o, run (tBring n) c s = o := ⟨_, rfl⟩
  rw [ho]
  have HB : Hid (BT (Stt nds M) d R (fun b => R b ∨ b = p) w a me wk p o (tBring n) W c s) := by
    show BT _ _ _ _ _ _ _ _ _ _ _ _ _ _
    rw [← ho]
    exact BT.begin_ h bb (fun b e => e.imp id fun e => by omega) (fun b e => e) tk hP
  have HD := Lib.hid (lstate_touch (me := me) (n := n) HB.out.lv)
  obtain ⟨t0, t1, t2⟩ := tk
  clear h bb hsz hP ho
  go_enter Tryz.func116, Tryz.ntmps116
  go_wp2_with fail
  (try rw [hW])
  refine HD.out.mono ?_
  clear HD t0 t1 t2 hW hp
  intro e w1 hP
  rcases BT.call (K := fun st => if st = 2 then .ret true else if st = 1 then tHelpL n else .ret false) HB.out (run_kpL kl_state) hP with ⟨st, c2, s2, rfl, -, hB, -⟩ | hx
  case inr => obtain ⟨rfl, hx⟩ := hx; exact ⟨rfl, Wts.post ⟨rfl, hx⟩⟩
  clear hP
  have HB2 := Lib.hid hB
  clear hB HB
  by_cases h2 : st = 2
  · subst h2
    have HE : Hid (Post d R w a wk bV o (.returned (.bool true)) w1) := BT.post (V := bV) HB2.out
    clear HB2
    go_wp2
    go_ret
    exact HE.out
  · by_cases h1 : st = 1
    · subst h1
      have HB3 : Hid (BT (Stt nds M) d R (fun b => R b ∨ b = p) w a me wk p o (tHelp (rcOf s2.rs n) n) w1 c2 s2) := BT.lk (K := fun r => tHelp r n) HB2.out
      obtain ⟨hg, hn⟩ := HB2.out.inv.rc n
      have hfew := HB2.out.inv.few
      obtain ⟨r, hr⟩ : ∃ r, rcOf s2.rs n = r := ⟨_, rfl⟩
      rw [hr] at HB3 hg
      obtain ⟨ns, is, kp, wy, od, nw⟩ := r
      have HD := Lib.hid (record_touch (me := me) HB3.out.lv hr hg.kp hg.len hg.few (by omega))
      obtain ⟨t0, t1, t2⟩ := HB3.out.tk
      clear HB2 hg hn hfew hr
      go_wp2_with fail
      refine HD.out.mono ?_
      clear HD t0 t1 t2
      intro e w3 hP
      rcases HB3.out.last hP with ⟨v, rfl, hE⟩ | hx
      case inr => obtain ⟨rfl, hx⟩ := hx; exact ⟨rfl, Wts.post ⟨rfl, hx⟩⟩
      have HE := Lib.hid hE
      clear hP hE HB3
      go_wp2
      go_ret
      exact HE.out
    · have HE : Hid (Post d R w a wk bV o (.returned (.bool false)) w1) := by
        have hB := HB2.out
        simp only [if_neg h2, if_neg h1] at hB
        exact BT.post (V := bV) hB
      clear HB2
      go_wp2
      go_ret
      exact HE.out
end
end Go.Proofs.YtcegianjpifnbaaGreat
