/-
  What the laws' Alone and yes come to, of a helper beside others.
-/
import Derived.Test.YtfloblofdkemlaaHm9
namespace Go.Proofs.Ytfloblofdkemlaa
open Go.ChangeShapes Go.WideShapes Go.ChangeAt Go.RowKit
set_option linter.unusedVariables false
set_option linter.unusedSimpArgs false
set_option maxRecDepth 20000

section
variable {d : Wd} {R R' FW : Nat → Prop} {n T i : Nat} {hs : Nat → Hp} {os : Nat → Ts} {s s' : Sig} {P : Nat → Nat → Prop} {w w' : World} {L : Nat}
/-- Where Alone is, behind j Steps. -/
structure AM (d : Wd) (R : Nat → Prop) (n T L : Nat) (hs : Nat → Hp) (os : Nat → Ts) (i : Nat) (r0 : Bool × Sig × Nat) (w : World) (j m : Nat) (u : Tr Bool) (s : Sig) (wr : World) : Prop where
  me : ME d R n (T + j) hs (upd os i (.run u)) s wr
  all : all (PR L (hs i)) u s
  e1 : r0.1 = (ev u s).1
  e2 : r0.2.1 = (ev u s).2.1
  e3 : r0.2.2 = j + (ev u s).2.2
  more : j = 0 ∨ 1 ≤ (ev u s).2.2
  kp : Kp R w wr
  m : m = (ev u s).2.2
set_option maxHeartbeats 1000000 in
theorem ME.alone {u : Tr Bool} (h : ME d R n T hs os s w) (hi : i < n) (ho : os i = .run u) (hall : all (PR L (hs i)) u s) (hT : T ≤ 250) (hm : (ev u s).2.2 ≤ 100) :
    Calls Try.prog 26 #[ptr (hs i).a] w fun e w' => ∃ A q c, e = .returned (.tuple #[.slice A q c, .int .i64 ((max (ev u s).2.2 1 : Nat) : Int), .bool true]) ∧ Row 2 w.heap.size w' (.slice A q c) (hlpOut (ev u s).1) ∧ ME d R n (T + 101) hs (upd os i (.fin (ev u s).1)) (ev u s).2.1 w' ∧ Kp R w w' := by
  obtain ⟨r0, hr0⟩ : ∃ r0, ev u s = r0 := ⟨_, rfl⟩
  have HA : Hid (AM d R n T L hs os i r0 w 0 r0.2.2 u s w) := ⟨by rw [show upd os i (.run u) = os from by rw [← ho]; exact upd_same os i]; exact h, hall, by rw [hr0], by rw [hr0], by rw [hr0]; omega, .inl rfl, Kp.refl _ _, by rw [hr0]⟩
  rw [hr0] at hm ⊢
  obtain ⟨m, hm2⟩ : ∃ m, r0.2.2 = m := ⟨_, rfl⟩
  rw [hm2] at HA hm
  have HM := Lib.hid hm2
  have HI := Lib.hid hi
  have HT := Lib.hid hT
  clear h ho hall hm2 hr0 hT hi
  go_enter Try.func26, Try.ntmps26
  go_wp2_with fail
  go_loopg [5] m (fun gk jv wr => ∃ (j : Nat) (u1 : Tr Bool) (s1 : Sig), jv = .int .i64 (j : Int) ∧ Hid (AM d R n T L hs os i r0 w j gk u1 s1 wr))
  case atStart => exact ⟨0, u, s, rfl, HA.out⟩
  case round =>
    clear HA
    obtain ⟨j, u1, s1, rfl, HH⟩ := hrel
    have hjm : j + gk = m := by have h1 := HH.out.e3; have h2 := HH.out.m; have h3 := HM.out; omega
    have i1 : (j : Int) < 3000 := by omega
    have hkw : IntKind.i64.wrap ((j : Int) + 1) = (j : Int) + 1 := IntWalk.i64_in _ (by omega)
    have HD := Lib.hid (HH.out.me.step HI.out (fun _ => HH.out.all.now) (by have := HT.out; omega))
    rw [upd_at, upd_upd] at HD
    rcases nxT_ev u1 s1 with ⟨v, s', e1, q1, q2, q3⟩ | ⟨u', s', e1, q1, q2, q3, q4⟩
    · rw [e1] at HD
      have HD : Hid (Calls Try.prog 32 #[ptr (hs i).a] wr fun e w' => e = .returned (.bool true) ∧ ME d R n (T + j + 1) hs (upd os i (.fin v)) s' w' ∧ Kp R wr w') := HD.out
      have HE : Hid (∀ (w1 : World), ME d R n (T + j + 1) hs (upd os i (.fin v)) s' w1 → Kp R wr w1 → Calls Try.prog 51 #[ptr (hs i).a] w1 fun e w' => ∃ A q c, e = .returned (.slice A q c) ∧ Hid (∃ A' q' c', Ending.returned (.tuple #[.slice A q c, .int .i64 ((j : Int) + 1), .bool true]) = .returned (.tuple #[.slice A' q' c', .int .i64 ((max r0.2.2 1 : Nat) : Int), .bool true]) ∧ Row 2 w.heap.size w' (.slice A' q' c') (hlpOut r0.1) ∧ ME d R n (T + 101) hs (upd os i (.fin r0.1)) r0.2.1 w' ∧ Kp R w w')) := by
        intro w1 h1 h2
        refine (h1.out HI.out (upd_at ..)).mono ?_
        rintro e w' ⟨A, q, c, rfl, r1, r2⟩
        have hle : w.heap.size ≤ w1.heap.size := Nat.le_trans HH.out.kp.size h2.size
        refine ⟨A, q, c, rfl, A, q, c, ?_, ?_, ?_, ?_⟩
        · have hmx : ((max r0.2.2 1 : Nat) : Int) = (j : Int) + 1 := by
            have h1 := HH.out.e3
            rcases HH.out.more with h2 | h2 <;> omega
          rw [hmx]
        · rw [HH.out.e1, q1]; exact r1.lower hle
        · rw [HH.out.e1, q1, HH.out.e2, q2]
          exact (h1.below r2).later (by omega)
        · refine (HH.out.kp.trans h2).trans (Kp.below r2 fun b e => ?_)
          obtain ⟨FW, P, hM⟩ := h1
          exact (hM.rs b e).1
      clear HH q1 q2 q3 e1
      go_wp2_with fail
      refine HD.out.mono ?_
      rintro e w1 ⟨rfl, h1, h2⟩
      have HO := Lib.hid (HE.out w1 h1 h2)
      clear HD HE h1 h2
      go_wp2_with fail
      refine HO.out.mono ?_
      rintro e w' ⟨A, q, c, rfl, hE⟩
      clear HO
      go_wp2
      go_ret3
      exact hE.out
    · rw [e1] at HD
      have HD : Hid (Calls Try.prog 32 #[ptr (hs i).a] wr fun e w' => e = .returned (.bool false) ∧ ME d R n (T + j + 1) hs (upd os i (.run u')) s' w' ∧ Kp R wr w') := HD.out
      have HF : Hid (∀ w1, ME d R n (T + j + 1) hs (upd os i (.run u')) s' w1 → Kp R wr w1 → AM d R n T L hs os i r0 w (j + 1) (gk - 1) u' s' w1) := fun w1 h1 h2 =>
        ⟨h1, nxT_all HH.out.all e1, by rw [HH.out.e1, q1], by rw [HH.out.e2, q2], by rw [HH.out.e3, q3]; omega, .inr q4, HH.out.kp.trans h2, by have := HH.out.m; omega⟩
      have hgk : 1 ≤ gk := by have := HH.out.m; omega
      clear HH q1 q2 q3 q4 e1
      go_wp2_with fail
      refine HD.out.mono ?_
      rintro e w1 ⟨rfl, h1, h2⟩
      have HG := Lib.hid (HF.out w1 h1 h2)
      clear HD HF h1 h2
      go_wp2
      go_roundg (gk - 1)
      case measure => omega
      case rel => exact ⟨j + 1, u', s', by go_num, HG.out⟩
theorem ME.alone_fin {b : Bool} (h : ME d R n T hs os s w) (hi : i < n) (ho : os i = .fin b) (hT : T ≤ 400) :
    Calls Try.prog 26 #[ptr (hs i).a] w fun e w' => ∃ A q c, e = .returned (.tuple #[.slice A q c, .int .i64 1, .bool true]) ∧ ME d R n (T + 1) hs os s w' ∧ Kp R w w' := by
  have HD := h.step (L := 0) hi (fun e => by rw [ho] at e; cases e) hT
  have e1 : nxT (os i) s = (os i, s) := by rw [ho]; rfl
  rw [e1, upd_same] at HD
  have HD : Hid (Calls Try.prog 32 #[ptr (hs i).a] w fun e w' => e = .returned (.bool true) ∧ ME d R n (T + 1) hs os s w' ∧ Kp R w w') := by rw [ho] at HD; exact HD
  have HE : Hid (∀ (w1 : World), ME d R n (T + 1) hs os s w1 → Kp R w w1 → Calls Try.prog 51 #[ptr (hs i).a] w1 fun e w' => ∃ A q c, e = .returned (.slice A q c) ∧ Hid (ME d R n (T + 1) hs os s w' ∧ Kp R w w')) := by
    intro w1 h1 h2
    refine (h1.out hi ho).mono ?_
    rintro e w' ⟨A, q, c, rfl, r1, r2⟩
    refine ⟨A, q, c, rfl, h1.below r2, h2.trans (Kp.below r2 fun b e => ?_)⟩
    obtain ⟨FW, P, hM⟩ := h1
    exact (hM.rs b e).1
  clear h hi ho hT e1
  go_enter Try.func26, Try.ntmps26
  go_wp2_with fail
  go_loopg [5] 0 (fun gk jv wr => jv = .int .i64 0 ∧ w = wr)
  case atStart => exact ⟨rfl, rfl⟩
  case round =>
    obtain ⟨rfl, rfl⟩ := hrel
    go_wp2_with fail
    refine HD.out.mono ?_
    rintro e w1 ⟨rfl, h1, h2⟩
    have HO := Lib.hid (HE.out w1 h1 h2)
    clear HD HE h1 h2
    go_wp2_with fail
    refine HO.out.mono ?_
    rintro e w' ⟨A, q, c, rfl, hE⟩
    clear HO
    go_wp2
    go_ret3
    exact ⟨A, q, c, rfl, hE.out⟩
/-- What a helper answered. -/
theorem ME.yes {b : Bool} (h : ME d R n T hs os s w) (hi : i < n) (ho : os i = .fin b) :
    Calls Try.prog 27 #[ptr (hs i).a] w fun e w' => e = .returned (.bool b) ∧ ME d R n T hs os s w' ∧ Below w.heap.size w w' := by
  have HO := Lib.hid (h.out hi ho)
  have HH := Lib.hid h
  clear h hi ho
  go_enter Try.func27, Try.ntmps27
  go_wp2_with fail
  refine HO.out.mono ?_
  rintro e w1 ⟨A, q, c, rfl, r1, r2⟩
  have hs := r1.sl
  obtain rfl : q = 1 := hs.len
  obtain ⟨g, off, rfl, hg, hc⟩ := hs.at_ (k := 0) (by simp [hlpOut])
  have HE : Hid (ME d R n T _ os s w1 ∧ Below w.heap.size w w1) := ⟨HH.out.below r2, r2⟩
  clear HO HH r1 r2 hs hg
  cases b with
  | true =>
    have hc : w1.cell? ⟨g, off, none⟩ = some (.int .i64 1) := hc
    go_wp2
    go_ret
    exact ⟨rfl, HE.out⟩
  | false =>
    have hc : w1.cell? ⟨g, off, none⟩ = some (.int .i64 0) := hc
    go_wp2
    go_ret
    exact ⟨rfl, HE.out⟩
end
end Go.Proofs.Ytfloblofdkemlaa
