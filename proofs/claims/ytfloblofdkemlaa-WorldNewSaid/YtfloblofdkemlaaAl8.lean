/-
  What the laws' Alone comes to: an operation goes on alone to its end.
-/
import Derived.Test.YtfloblofdkemlaaSt8
namespace Go.Proofs.Ytfloblofdkemlaa
open Go.ChangeShapes Go.WideShapes Go.ChangeAt Go.RowKit
set_option linter.unusedVariables false
set_option linter.unusedSimpArgs false
set_option maxRecDepth 20000

section
variable {α : Type}
theorem stp_done {u : Tr α} {s s' : Sig} {v : α} (h : stp u s = .done v s') : (ev u s).1 = v ∧ (ev u s).2.1 = s' ∧ (ev u s).2.2 ≤ 1 := by
  cases u with
  | ret v' => simp only [stp] at h; injection h with h1 h2; exact ⟨h1, h2, Nat.zero_le _⟩
  | tch g K =>
    simp only [stp] at h
    cases hK : K (g s).1 with
    | ret v' => rw [hK] at h; injection h with h1 h2; simp only [ev, hK]; exact ⟨h1, h2, Nat.le_refl _⟩
    | tch g' K' => rw [hK] at h; cases h
theorem stp_more {u : Tr α} {s s' : Sig} {z : Int} (h : stp u s = .more z s') : ∃ g K g' K', u = .tch g K ∧ z = (g s).1 ∧ s' = (g s).2 ∧ K z = .tch g' K' ∧ (ev u s).1 = (ev (K z) s').1 ∧ (ev u s).2.1 = (ev (K z) s').2.1 ∧ (ev u s).2.2 = (ev (K z) s').2.2 + 1 := by
  cases u with
  | ret v' => simp only [stp] at h; cases h
  | tch g K =>
    simp only [stp] at h
    cases hK : K (g s).1 with
    | ret v' => rw [hK] at h; cases h
    | tch g' K' =>
      rw [hK] at h
      injection h with h1 h2
      subst h1 h2
      exact ⟨g, K, g', K', rfl, rfl, rfl, hK, rfl, rfl, rfl⟩
end
section
variable {d : Wd} {R R' : Nat → Prop} {w w' w0 : World} {a st ph k me : Nat} {wk : Value} {zs : List Int} {c : Cur} {s : Sig} {n : Int} {α : Type} {P : Sig → Prop} {t : Tr α} {out : α → List Int}
/-- What Alone comes to. -/
def AloneP {α : Type} (d : Wd) (R : Nat → Prop) (w : World) (out : α → List Int) (r : α × Sig × Nat) (e : Ending) (w' : World) : Prop :=
  ∃ A n q, e = .returned (.tuple #[.slice A n q, .int .i64 ((max r.2.2 1 : Nat) : Int), .bool true]) ∧ Row 2 w.heap.size w' (.slice A n q) (out r.1) ∧ Idle d (fun b => R b ∨ (Value.slice A n q).ownBlock = some b) w' r.2.1 ∧ Kp R w w'
/-- Where Alone is, behind j Steps. -/
structure AL {α : Type} (d : Wd) (R : Nat → Prop) (w : World) (a f : Nat) (args : Array Value) (wk : Value) (P : Sig → Prop) (t : Tr α) (out : α → List Int) (s0 : Sig) (j m : Nat) (zs : List Int) (s : Sig) (wr : World) : Prop where
  rest : Rest d R wr a wk zs j s
  wks : Works d R wr a f args wk P t out
  len : zs.length = j
  path : path t zs
  all : all P (res t zs) s
  e1 : (ev t s0).1 = (ev (res t zs) s).1
  e2 : (ev t s0).2.1 = (ev (res t zs) s).2.1
  e3 : (ev t s0).2.2 = j + (ev (res t zs) s).2.2
  more : j = 0 ∨ 1 ≤ (ev (res t zs) s).2.2
  kp : Kp R w wr
  m : m = (ev (res t zs) s).2.2
theorem ended_out {os : List Int} (h : Ended d R w a os s) (hl : os.length ≤ 1000) : Calls Try.prog 51 #[ptr a] w fun e w' => ∃ A n q, e = .returned (.slice A n q) ∧ Row 2 w.heap.size w' (.slice A n q) os ∧ Idle d (fun b => R b ∨ (Value.slice A n q).ownBlock = some b) w' s ∧ Kp R w w' := by
  obtain ⟨F, FW, st, k, O, h1, h2, h3, h4⟩ := h
  refine (out_walk h1 hl).mono ?_
  rintro e w' ⟨v, rfl, hr, hb⟩
  obtain ⟨A, n, q, rfl⟩ := hr.shape
  refine ⟨A, n, q, rfl, hr, ⟨FW, h2.below hb, ?_⟩, Kp.below hb fun b e => (h4 b e).1⟩
  rintro b (e | e)
  · exact ⟨Nat.lt_of_lt_of_le (h4 b e).1 hb.size, (h4 b e).2.2⟩
  · have := World.ownsRow.lt hr b e
    exact ⟨this.2, fun f => by have := h2.lt b f; omega⟩
set_option maxHeartbeats 1000000 in
theorem alone_walk {f : Nat} {cap args : Array Value} (hargs : #[ptr a] ++ cap = args) (hen : ∀ W : World, (callFunc f args).run Try.prog W = .ok (.enter f args) W)
    (hW : Works d R w a f args (.func (.func f) #[] cap) P t out) (h : Rest d R w a (.func (.func f) #[] cap) [] 0 s) (hPf : ∀ s, P s → Fit s) (hall : all P t s) (hm : (ev t s).2.2 ≤ 400) (hl : (out (ev t s).1).length ≤ 1000) :
    Calls Try.prog 26 #[ptr a] w (AloneP d R w out (ev t s)) := by
  have HA : Hid (AL d R w a f args (.func (.func f) #[] cap) P t out s 0 (ev t s).2.2 [] s w) := ⟨h, hW, rfl, by simp [path], by cases t <;> exact hall, by cases t <;> rfl, by cases t <;> rfl, by cases t <;> simp [res], .inl rfl, Kp.refl _ _, by cases t <;> rfl⟩
  obtain ⟨m, hm2⟩ : ∃ m, (ev t s).2.2 = m := ⟨_, rfl⟩
  rw [hm2] at HA hm
  have HM := Lib.hid hm2
  have HPf := Lib.hid hPf
  have HL := Lib.hid hl
  clear hW h hall hm2 hPf hl
  go_enter Try.func26, Try.ntmps26
  go_wp2_with fail
  go_loopg [5] m (fun gk i wr => ∃ (j : Nat) (zs : List Int) (s1 : Sig), i = .int .i64 (j : Int) ∧ Hid (AL d R w a f args (.func (.func f) #[] cap) P t out s j gk zs s1 wr))
  case atStart => exact ⟨0, [], s, rfl, HA.out⟩
  case round =>
    clear HA
    obtain ⟨j, zs, s1, rfl, HH⟩ := hrel
    have hjm : j + gk = m := by have h1 := HH.out.e3; have h2 := HH.out.m; have h3 := HM.out; omega
    have i1 : (j : Int) < 3000 := by omega
    have hkw : IntKind.i64.wrap ((j : Int) + 1) = (j : Int) + 1 := IntWalk.i64_in _ (by omega)
    have HD := Lib.hid (step_tree hargs hen HH.out.wks HH.out.rest HH.out.path (HPf.out _ HH.out.all.now) HH.out.all.now (by have := HH.out.len; omega))
    go_wp2_with fail
    refine HD.out.mono ?_
    intro e w1 hP
    clear HD
    rcases run_stp t zs j s1 HH.out.path with ⟨v, c', s', hr, hs⟩ | ⟨z, s', hr, hs⟩
    · rw [hs] at hP
      obtain ⟨k1, rfl, k2⟩ := hP
      obtain ⟨q1, q2, q3⟩ := stp_done hs
      have HO := Lib.hid (ended_out k2 (by have := HL.out; rw [HH.out.e1, q1] at this; exact this))
      have HE : Hid (∀ (e : Ending) (w' : World), (∃ A n q, e = .returned (.slice A n q) ∧ Row 2 w1.heap.size w' (.slice A n q) (out v) ∧ Idle d (fun b => R b ∨ (Value.slice A n q).ownBlock = some b) w' s' ∧ Kp R w1 w') → ∃ A n q, e = .returned (.slice A n q) ∧ AloneP d R w out (ev t s) (.returned (.tuple #[.slice A n q, .int .i64 ((j : Int) + 1), .bool true])) w') := by
        rintro e w' ⟨A, n, q, rfl, r1, r2, r3⟩
        refine ⟨A, n, q, rfl, A, n, q, ?_, ?_, ?_, ?_⟩
        · have hmx : ((max (ev t s).2.2 1 : Nat) : Int) = (j : Int) + 1 := by
            have h1 := HH.out.e3
            rcases HH.out.more with h2 | h2 <;> omega
          rw [hmx]
        · rw [HH.out.e1, q1]
          exact r1.lower (Nat.le_trans HH.out.kp.size k1.size)
        · rw [HH.out.e2, q2]; exact r2
        · exact HH.out.kp.trans (k1.trans r3)
      clear HH k1 k2 q1 q2 q3 hs hr
      go_wp2_with fail
      refine HO.out.mono ?_
      intro e w' hP
      obtain ⟨A, n, q, rfl, hE⟩ := HE.out e w' hP
      have HF := Lib.hid hE
      clear HO HE hP hE
      go_wp2
      go_ret3
      exact HF.out
    · rw [hs] at hP
      obtain ⟨k1, rfl, k2⟩ := hP
      obtain ⟨g, K, g', K', q1, q2, q3, q4, q5, q6, q7⟩ := stp_more hs
      have hps := path_snoc HH.out.path q1 z
      have HF : Hid (AL d R w a f args (.func (.func f) #[] cap) P t out s (j + 1) (gk - 1) (zs ++ [z]) s' w1) := by
        refine ⟨k2, HH.out.wks.kept k1.block, by rw [List.length_append, HH.out.len]; rfl, hps.1, ?_, ?_, ?_, ?_, .inr ?_, HH.out.kp.trans k1, ?_⟩
        · rw [hps.2]
          have := HH.out.all
          rw [q1] at this
          rw [q2, q3]
          exact this.2
        · rw [hps.2, HH.out.e1, q5]
        · rw [hps.2, HH.out.e2, q6]
        · rw [hps.2, HH.out.e3, q7]; omega
        · rw [hps.2, q4]; simp [ev]
        · have := HH.out.m
          rw [hps.2]; omega
      have hgk : 1 ≤ gk := by have := HH.out.m; omega
      clear HH k1 k2 q1 q2 q3 q4 q5 q6 q7 hs hr hps
      go_wp2
      go_roundg (gk - 1)
      case measure => omega
      case rel => exact ⟨j + 1, zs ++ [z], s', by go_num, HF.out⟩
end
end Go.Proofs.Ytfloblofdkemlaa
