/-
  What the laws' Alone comes to, of a thread beside others, whatever its work; trees whose looks are there.
-/
import Derived.Test.YtcegianjpifnbaaGreatGm10
namespace Go.Proofs.YtcegianjpifnbaaGreat
open Go.ChangeShapes Go.WideShapes Go.ChangeAt Go.RowKit
set_option linter.unusedVariables false
set_option linter.unusedSimpArgs false
set_option maxRecDepth 20000

/-- Whatever others do between: what it looks at is there. -/
def good {α : Type} : Tr α → Sig → Prop
  | .ret _, _ => True
  | .tch g K, s => ∀ s', Le s s' → Le s' (g s').2 ∧ good (K (g s').1) (g s').2
  | .lk n K, s => has s n ∧ good (K (rcOf s.rs n)) s
/-- It looks at none. -/
def nolk {α : Type} : Tr α → Prop
  | .ret _ => True
  | .tch g K => (∀ s, Le s (g s).2) ∧ ∀ z, nolk (K z)
  | .lk _ _ => False
section
variable {α β : Type} {s s' : Sig}
theorem good_le {t : Tr α} (h : good t s) (hl : Le s s') : good t s' := by
  induction t with
  | ret v => exact trivial
  | tch g K ih => exact fun s2 h2 => h s2 (hl.trans h2)
  | lk n K ih =>
    obtain ⟨h1, h2⟩ := h
    obtain ⟨k1, k2⟩ := hl n h1
    refine ⟨k1, ?_⟩
    rw [k2]; exact ih _ h2
theorem good_bind {t : Tr α} {K : α → Tr β} (h : good t s) (hK : ∀ v s', Le s s' → good (K v) s') : good (t.bind K) s := by
  induction t generalizing s with
  | ret v => exact hK v s (Le.refl s)
  | tch g K' ih => exact fun s2 h2 => ⟨(h s2 h2).1, ih _ (h s2 h2).2 fun v s3 h3 => hK v s3 (h2.trans ((h s2 h2).1.trans h3))⟩
  | lk n K' ih => exact ⟨h.1, ih _ h.2 hK⟩
theorem nolk_good {t : Tr α} (h : nolk t) (s : Sig) : good t s := by
  induction t generalizing s with
  | ret v => exact trivial
  | tch g K ih => exact fun s2 h2 => ⟨h.1 s2, ih _ (h.2 _) _⟩
  | lk n K ih => exact h.elim
theorem nolk_bind {t : Tr α} {K : α → Tr β} (h : nolk t) (hK : ∀ v, nolk (K v)) : nolk (t.bind K) := by
  induction t with
  | ret v => exact hK v
  | tch g K' ih => exact ⟨h.1, fun z => ih z (h.2 z)⟩
  | lk n K' ih => exact h.elim
theorem good_hd {t : Tr α} (h : good t s) : hd t s := by
  induction t with
  | ret v => exact trivial
  | tch g K ih => exact trivial
  | lk n K ih => exact ⟨h.1, ih _ h.2⟩
theorem good_nrm {t : Tr α} (h : good t s) : good (nrm t s) s := by
  induction t with
  | ret v => exact h
  | tch g K ih => exact h
  | lk n K ih => exact ih _ h.2
theorem good_okT {t : Tr α} (h : good t s) : okT t s := by
  induction t generalizing s with
  | ret v => exact trivial
  | tch g K ih =>
    obtain ⟨h1, h2⟩ := h s (Le.refl s)
    exact ⟨⟨h1, good_hd h2⟩, ih _ h2⟩
  | lk n K ih => exact ih _ h.2
/-- What is kept all along. -/
theorem all_kpL {nds : List (Int × Nd)} {M : Nat} {t : Tr α} (h : kpL nds M t) (hs : Stt nds M s) : all (Stt nds M) t s := by
  induction t generalizing s with
  | ret v => exact hs
  | tch g K ih => exact ⟨hs, ih _ (h.2 _) (h.1 s hs)⟩
  | lk n K ih => exact ih _ (h _ (hs.rc n).1 (hs.rc n).2) hs
theorem ev_kpL {nds : List (Int × Nd)} {M : Nat} {t : Tr α} (h : kpL nds M t) (hs : Stt nds M s) : Stt nds M (ev t s).2.1 := by
  induction t generalizing s with
  | ret v => exact hs
  | tch g K ih => exact ih _ (h.2 _) (h.1 s hs)
  | lk n K ih => exact ih _ (h _ (hs.rc n).1 (hs.rc n).2) hs
theorem all_and {P Q : Sig → Prop} {t : Tr α} (h : all P t s) (h2 : all Q t s) : all (fun s => P s ∧ Q s) t s := by
  induction t generalizing s with
  | ret v => exact ⟨h, h2⟩
  | tch g K ih => exact ⟨⟨h.1, h2.1⟩, ih _ h.2 h2.2⟩
  | lk n K ih => exact ih _ h h2
theorem okT_stO {u : Tr (List Int)} (h : okT u s) (hn : nl u) : stO (.run u) s := by
  cases u with
  | ret v => exact trivial
  | tch g K => exact h.1
  | lk n K => exact hn.elim
/-! The touches leave records as they were. -/
theorem has_setRe (l : List Re) (n m : Int) (f : Re → Re) : (rcAt (setRe l n f) m = none ↔ rcAt l m = none) := by
  unfold rcAt
  have hl := setRe_len l n f
  by_cases h : m < 1
  · rw [if_pos h, if_pos h]
  · rw [if_neg h, if_neg h]
    by_cases h2 : (m - 1).toNat < l.length
    · rw [List.getElem?_eq_getElem h2, List.getElem?_eq_getElem (by omega)]
      simp
    · rw [List.getElem?_eq_none (by omega), List.getElem?_eq_none (by omega)]
theorem rcOf_setRe (l : List Re) (n m : Int) (f : Re → Re) (hf : ∀ x, (f x).rc = x.rc) : rcOf (setRe l n f) m = rcOf l m := by
  unfold setRe
  split
  · rename_i i x hx
    have h1 := (rcAt_some hx).1
    unfold rcOf rcAt
    by_cases hm : m < 1
    · rw [if_pos hm, if_pos hm]
    · rw [if_neg hm, if_neg hm]
      by_cases e : i = (m - 1).toNat
      · subst e
        rw [List.getElem?_set_self (List.getElem?_eq_some_iff.1 h1).1, h1]
        exact hf x
      · rw [List.getElem?_set_ne e]
  · rfl
theorem Le.setRe {n : Int} {f : Re → Re} (hf : ∀ x, (f x).rc = x.rc) : Le s { s with rs := Go.Proofs.YtcegianjpifnbaaGreat.setRe s.rs n f } := fun m h => ⟨fun e => h ((has_setRe s.rs n m f).1 e), rcOf_setRe _ _ _ _ hf⟩
theorem le_state (n : Int) : Le s (gState n s).2 := by rw [gState_eq]; exact Le.refl s
theorem nl_mark (r : Int) : nolk (tMark r) := ⟨fun s => Le.rs rfl, fun _ => trivial⟩
theorem nl_info (r : Int) : nolk (tDo (gInfo r)) := ⟨fun s => Le.rs rfl, fun _ => trivial⟩
theorem nl_way (r k : Int) : nolk (tDo (gWay r k)) := ⟨fun s => Le.rs rfl, fun _ => trivial⟩
theorem nl_state (n : Int) : nolk (tState n) := ⟨fun s => le_state n, fun _ => trivial⟩
theorem nl_ite {b : Bool} {t u : Tr α} (ht : nolk t) (hu : nolk u) : nolk (if b = true then t else u) := by cases b <;> assumption
theorem nl_tSet (n t : Int) : nolk (tSet n t) := ⟨fun s => Le.setRe fun x => rfl, fun _ => trivial⟩
theorem nl_marks {F : Tr Unit} (hF : nolk F) (l : List Int) : nolk (tMarks F l) := by
  induction l with
  | nil => exact hF
  | cons r l ih => exact ⟨fun s => Le.rs rfl, fun _ => ih⟩
theorem nl_finish (r : Rc) (n : Int) : nolk (tFinish r n) := by
  refine ⟨fun s => Le.setRe fun x => rfl, fun _ => nl_marks ?_ _⟩
  unfold tWay
  split
  · exact nl_tSet n 2
  · exact ⟨fun s => Le.rs rfl, fun _ => nl_tSet n 2⟩
theorem nl_settle (n : Int) : nolk (tSettle n) := ⟨fun s => Le.refl s, fun z => nl_ite trivial (nolk_bind (nl_tSet n 0) fun _ => trivial)⟩
theorem nl_takes (r : Rc) (n : Int) (l : List (Int × Int)) : nolk (tTakes r n l) := by
  induction l with
  | nil => exact nolk_bind (nl_finish r n) fun _ => trivial
  | cons p l ih => exact nolk_bind (t := tTake p.1 p.2 n) ⟨fun s => Le.rs rfl, fun z => nl_ite trivial ⟨fun s => Le.rs rfl, fun _ => trivial⟩⟩ fun b => nl_ite ih (nl_settle n)
theorem nl_help (r : Rc) (n : Int) : nolk (tHelp r n) := nl_takes r n _
theorem st_has {n : Int} (h : u8w (gState n s).1 = 1) : has s n := by
  intro e
  rw [gState_eq] at h
  unfold stOf at h
  rw [e] at h
  exact absurd (show u8w (IntKind.i64.wrap 0) = 1 from h) (by decide)
theorem good_bring (n : Int) (s : Sig) : good (tBring n) s := by
  intro s' hl
  refine ⟨le_state n, ?_⟩
  have e : (gState n s').2 = s' := by rw [gState_eq]
  rw [e]
  show good (if u8w (gState n s').1 = 2 then _ else _) s'
  split
  · exact trivial
  · split
    · rename_i h1
      exact ⟨st_has h1, nolk_good (nl_help _ _) _⟩
    · exact trivial
theorem nl_ways (r : Int) (k i : Nat) (ws : List Int) : nolk (tWays r k i ws) := by
  induction k generalizing i ws with
  | zero => exact trivial
  | succ k ih => exact nolk_bind (nl_way _ _) fun z => ih _ _
theorem nl_read (r n : Int) (nd : Nd) : nolk (tRead r n nd) := nolk_bind (nl_ways _ _ _ _) fun ws => nolk_bind (nl_info r) fun y => trivial
theorem good_rest (r n : Int) (m : Bool) (s : Sig) : good (tRest r n m) s := by
  refine good_bind (good_bring n s) fun b s' h => ?_
  cases b && m with
  | true => exact trivial
  | false => exact good_bind (nolk_good (nl_info r) _) fun n2 s2 h2 => good_bind (good_bring n2 s2) fun _ _ _ => trivial
theorem good_load (r : Int) (nd : Nd) (s : Sig) : good (tLoad r nd) s := by
  refine good_bind (nolk_good (nl_mark r) s) fun m s1 _ => good_bind (nolk_good (nl_info r) s1) fun n s2 _ => good_bind (nolk_good (nl_state n) s2) fun st s3 _ => good_bind (nolk_good (nl_mark r) s3) fun m2 s4 _ => ?_
  split
  · refine good_bind (nolk_good (nl_read r n nd) s4) fun x s5 _ => ?_
    split
    · exact trivial
    · exact good_rest r n m s5
  · exact good_rest r n m s4
end
section
variable {d : Wd} {R R' FW : Nat → Prop} {n T i : Nat} {hs : Nat → Hp} {os : Nat → Ts} {s s' : Sig} {P : Nat → Nat → Prop} {w w' : World} {L : Nat}
/-- Where Alone is, behind j Steps. -/
structure AN (d : Wd) (R : Nat → Prop) (n T : Nat) (hs : Nat → Hp) (os : Nat → Ts) (i : Nat) (r0 : List Int × Sig × Nat) (w : World) (j m : Nat) (u : Tr (List Int)) (s : Sig) (wr : World) : Prop where
  me : ME d R n (T + j) hs (upd os i (.run u)) s wr
  nl : nl u
  all : all (fun s => (hs i).P s ∧ Fit s) u s
  ok : okT u s
  e1 : r0.1 = (ev u s).1
  e2 : r0.2.1 = (ev u s).2.1
  e3 : r0.2.2 = j + (ev u s).2.2
  more : j = 0 ∨ 1 ≤ (ev u s).2.2
  kp : Kp R w wr
  m : m = (ev u s).2.2
set_option maxHeartbeats 1000000 in
theorem ME.aloneM {M : Nat} {u : Tr (List Int)} (h : ME d R n T hs os s w) (hi : i < n) (ho : os i = .run u) (hnl : nl u) (hall : all (fun s => (hs i).P s ∧ Fit s) u s) (hok : okT u s) (hT : T + M ≤ 430) (hm : (ev u s).2.2 ≤ M) (hlen : (ev u s).1.length ≤ 1000) :
    Calls Tryz.prog 12 #[ptr (hs i).a] w fun e w' => ∃ A q c, e = .returned (.tuple #[.slice A q c, .int .i64 ((max (ev u s).2.2 1 : Nat) : Int), .bool true]) ∧ Row 2 w.heap.size w' (.slice A q c) (ev u s).1 ∧ ME d R n (T + M + 1) hs (upd os i (.fin (ev u s).1)) (ev u s).2.1 w' ∧ Kp R w w' := by
  obtain ⟨r0, hr0⟩ : ∃ r0, ev u s = r0 := ⟨_, rfl⟩
  have HA : Hid (AN d R n T hs os i r0 w 0 r0.2.2 u s w) := ⟨by rw [show upd os i (.run u) = os from by rw [← ho]; exact upd_same os i]; exact h, hnl, hall, hok, by rw [hr0], by rw [hr0], by rw [hr0]; omega, .inl rfl, Kp.refl _ _, by rw [hr0]⟩
  rw [hr0] at hm hlen ⊢
  obtain ⟨m, hm2⟩ : ∃ m, r0.2.2 = m := ⟨_, rfl⟩
  rw [hm2] at HA hm
  have HM := Lib.hid hm2
  have HI := Lib.hid hi
  have HT := Lib.hid hT
  have HLN := Lib.hid hlen
  clear h ho hall hm2 hr0 hT hi hnl hok hlen
  go_enter Tryz.func12, Tryz.ntmps12
  go_wp2_with fail
  go_loopg [5] m (fun gk jv wr => ∃ (j : Nat) (u1 : Tr (List Int)) (s1 : Sig), jv = .int .i64 (j : Int) ∧ Hid (AN d R n T hs os i r0 w j gk u1 s1 wr))
  case atStart => exact ⟨0, u, s, rfl, HA.out⟩
  case round =>
    clear HA
    obtain ⟨j, u1, s1, rfl, HH⟩ := hrel
    have hjm : j + gk = m := by have h1 := HH.out.e3; have h2 := HH.out.m; have h3 := HM.out; omega
    have i1 : (j : Int) < 3000 := by have := HT.out; omega
    have hkw : IntKind.i64.wrap ((j : Int) + 1) = (j : Int) + 1 := IntWalk.i64_in _ (by omega)
    have HD := Lib.hid (HH.out.me.step HI.out (fun _ => HH.out.all.now) (by rw [upd_at]; exact okT_stO HH.out.ok HH.out.nl) (by have := HT.out; omega))
    rw [upd_at, upd_upd] at HD
    rcases nxT_ev (s := s1) HH.out.nl with ⟨v, s', e1, q1, q2, q3⟩ | ⟨u', s', e1, q0, q1, q2, q3, q4⟩
    · rw [e1] at HD
      have HD : Hid (Calls Tryz.prog 29 #[ptr (hs i).a] wr fun e w' => e = .returned (.bool true) ∧ ME d R n (T + j + 1) hs (upd os i (.fin v)) s' w' ∧ Kp R wr w') := HD.out
      have HE : Hid (∀ (w1 : World), ME d R n (T + j + 1) hs (upd os i (.fin v)) s' w1 → Kp R wr w1 → Calls Tryz.prog 30 #[ptr (hs i).a] w1 fun e w' => ∃ A q c, e = .returned (.slice A q c) ∧ Hid (∃ A' q' c', Ending.returned (.tuple #[.slice A q c, .int .i64 ((j : Int) + 1), .bool true]) = .returned (.tuple #[.slice A' q' c', .int .i64 ((max r0.2.2 1 : Nat) : Int), .bool true]) ∧ Row 2 w.heap.size w' (.slice A' q' c') r0.1 ∧ ME d R n (T + M + 1) hs (upd os i (.fin r0.1)) r0.2.1 w' ∧ Kp R w w')) := by
        intro w1 h1 h2
        refine (h1.out HI.out (upd_at ..) (by rw [← q1, ← HH.out.e1]; exact HLN.out)).mono ?_
        rintro e w' ⟨A, q, c, rfl, r1, r2⟩
        have hle : w.heap.size ≤ w1.heap.size := Nat.le_trans HH.out.kp.size h2.size
        refine ⟨A, q, c, rfl, A, q, c, ?_, ?_, ?_, ?_⟩
        · have hmx : ((max r0.2.2 1 : Nat) : Int) = (j : Int) + 1 := by
            have h1 := HH.out.e3
            rcases HH.out.more with h2 | h2 <;> omega
          rw [hmx]
        · rw [HH.out.e1, q1]; exact r1.lower hle
        · rw [HH.out.e1, q1, HH.out.e2, q2]
          exact (h1.below r2).later (by omega)
        · refine (HH.out.kp.trans h2).trans (Kp.below r2 fun b e => h1.lt b e)
      clear HH q1 q2 q3 e1
      go_wp2_with fail
      refine HD.out.mono ?_
      rintro e w1 ⟨rfl, h1, h2⟩
      have HO := Lib.hid (HE.out w1 h1 h2)
      clear HD HE h1 h2
      go_wp2_with fail
      refine HO.out.mono ?_
      rintro e w' ⟨A, q, c, rfl, hE⟩
      clear HO
      go_wp2
      go_ret3
      exact hE.out
    · rw [e1] at HD
      have HD : Hid (Calls Tryz.prog 29 #[ptr (hs i).a] wr fun e w' => e = .returned (.bool false) ∧ ME d R n (T + j + 1) hs (upd os i (.run u')) s' w' ∧ Kp R wr w') := HD.out
      have HF : Hid (∀ w1, ME d R n (T + j + 1) hs (upd os i (.run u')) s' w1 → Kp R wr w1 → AN d R n T hs os i r0 w (j + 1) (gk - 1) u' s' w1) := fun w1 h1 h2 =>
        have hao := nxT_all HH.out.all HH.out.ok e1 HH.out.nl
        ⟨h1, q0, hao.1, hao.2, by rw [HH.out.e1, q1], by rw [HH.out.e2, q2], by rw [HH.out.e3, q3]; omega, .inr q4, HH.out.kp.trans h2, by have := HH.out.m; omega⟩
      have hgk : 1 ≤ gk := by have := HH.out.m; omega
      clear HH q0 q1 q2 q3 q4 e1
      go_wp2_with fail
      refine HD.out.mono ?_
      rintro e w1 ⟨rfl, h1, h2⟩
      have HG := Lib.hid (HF.out w1 h1 h2)
      clear HD HF h1 h2
      go_wp2
      go_roundg (gk - 1)
      case measure => omega
      case rel => exact ⟨j + 1, u', s', by go_num, HG.out⟩
/-- Alone from the beginning, by what is shared then. -/
theorem ME.alone' {nds : List (Int × Nd)} {Mx M : Nat} {t : Tr (List Int)} (h : ME d R n T hs os s w) (hi : i < n) (ho : os i = .run (nrm t s)) (hp : (hs i).P = Stt nds Mx) (hI : Inv L (M + 1) s) (hS : Stt nds Mx s) (ht : tame L t) (hk : kpL nds Mx t) (hg : good t s) (hT : T + M ≤ 430) (hm : (ev t s).2.2 ≤ M) (hlen : (ev t s).1.length ≤ 1000) :
    Calls Tryz.prog 12 #[ptr (hs i).a] w fun e w' => ∃ A q c, e = .returned (.tuple #[.slice A q c, .int .i64 ((max (ev t s).2.2 1 : Nat) : Int), .bool true]) ∧ Row 2 w.heap.size w' (.slice A q c) (ev t s).1 ∧ ME d R n (T + M + 1) hs (upd os i (.fin (ev t s).1)) (ev t s).2.1 w' ∧ Kp R w w' := by
  have ha := (tame_all ht s 0 (hI.mono (by omega))).1
  have hall : all (fun s => (hs i).P s ∧ Fit s) t s := by
    rw [hp]
    exact all_and (all_kpL hk hS) (all_mono (fun s h => h.fit) ha)
  rw [ev_nrm t s] at hm hlen ⊢
  exact h.aloneM hi ho (nl_nrm t s) (all_nrm hall) (okT_nrm (good_okT hg)) hT hm hlen
theorem ME.alone_fin {b : List Int} (h : ME d R n T hs os s w) (hi : i < n) (ho : os i = .fin b) (hl : b.length ≤ 1000) (hT : T ≤ 440) :
    Calls Tryz.prog 12 #[ptr (hs i).a] w fun e w' => ∃ A q c, e = .returned (.tuple #[.slice A q c, .int .i64 1, .bool true]) ∧ Row 2 w.heap.size w' (.slice A q c) b ∧ ME d R n (T + 1) hs os s w' ∧ Kp R w w' := by
  have HD := h.step (i := i) hi (fun e => by rw [ho] at e; cases e) (by rw [ho]; exact trivial) hT
  have e1 : nxT (os i) s = (os i, s) := by rw [ho]; rfl
  rw [e1, upd_same] at HD
  have HD : Hid (Calls Tryz.prog 29 #[ptr (hs i).a] w fun e w' => e = .returned (.bool true) ∧ ME d R n (T + 1) hs os s w' ∧ Kp R w w') := by rw [ho] at HD; exact HD
  have HE : Hid (∀ (w1 : World), ME d R n (T + 1) hs os s w1 → Kp R w w1 → Calls Tryz.prog 30 #[ptr (hs i).a] w1 fun e w' => ∃ A q c, e = .returned (.slice A q c) ∧ Hid (Row 2 w.heap.size w' (.slice A q c) b ∧ ME d R n (T + 1) hs os s w' ∧ Kp R w w')) := by
    intro w1 h1 h2
    refine (h1.out hi ho hl).mono ?_
    rintro e w' ⟨A, q, c, rfl, r1, r2⟩
    exact ⟨A, q, c, rfl, r1.lower h2.size, h1.below r2, h2.trans (Kp.below r2 fun b e => h1.lt b e)⟩
  clear h hi ho hT e1 hl
  go_enter Tryz.func12, Tryz.ntmps12
  go_wp2_with fail
  go_loopg [5] 0 (fun gk jv wr => jv = .int .i64 0 ∧ w = wr)
  case atStart => exact ⟨rfl, rfl⟩
  case round =>
    obtain ⟨rfl, rfl⟩ := hrel
    go_wp2_with fail
    refine HD.out.mono ?_
    rintro e w1 ⟨rfl, h1, h2⟩
    have HO := Lib.hid (HE.out w1 h1 h2)
    clear HD HE h1 h2
    go_wp2_with fail
    refine HO.out.mono ?_
    rintro e w' ⟨A, q, c, rfl, hE⟩
    clear HO
    go_wp2
    go_ret3
    exact ⟨A, q, c, rfl, hE.out⟩
end
end Go.Proofs.YtcegianjpifnbaaGreat
