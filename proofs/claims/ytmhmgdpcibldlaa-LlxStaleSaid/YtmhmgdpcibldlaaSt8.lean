/-
  A thread whose work is a tree of touches: what Step, Start and Alone come to.
-/
import Derived.Test.YtmhmgdpcibldlaaBj8
namespace Go.Proofs.Ytmhmgdpcibldlaa
open Go.ChangeShapes Go.WideShapes Go.ChangeAt Go.RowKit
set_option linter.unusedVariables false
set_option linter.unusedSimpArgs false
set_option maxRecDepth 20000

/-- A thread that rests. -/
structure Rest (d : Wd) (R : Nat → Prop) (w : World) (a : Nat) (wk : Value) (zs : List Int) (st : Nat) (s : Sig) : Prop where
  lv : ∃ k, Lv0 d R w a wk zs st 0 k s
  in64 : ∀ z ∈ zs, in64 z
/-- A thread at its end. -/
def Ended (d : Wd) (R : Nat → Prop) (w : World) (a : Nat) (os : List Int) (s : Sig) : Prop :=
  ∃ F FW st k O, Th F w a .nilFunc [] st O os 0 k (.slice none 0 0) ∧ WS d FW w s ∧ (∀ b, F b → ¬ FW b) ∧ ∀ b, R b → b < w.heap.size ∧ ¬ F b ∧ ¬ FW b
/-- What work comes to: a slice of numbers, or it waits. -/
def PostW {α : Type} (d : Wd) (R : Nat → Prop) (w : World) (a : Nat) (wk : Value) (out : α → List Int) (o : Out α) (e : Ending) (w' : World) : Prop :=
  Kp R w w' ∧ match o with
  | .ret v c s => (∃ A n k, e = .returned (.slice A n k) ∧ Sl w' A n k (out v) ∧ (out v).length ≤ 1000) ∧ Lv d R w' a wk c s
  | .wait zs st s => e = .panicked waitE ∧ Wt d R w' a wk zs st s
/-- Work's contract, wherever R's blocks are as they were in w. -/
def Works {α : Type} (d : Wd) (R : Nat → Prop) (w : World) (a f : Nat) (args : Array Value) (wk : Value) (P : Sig → Prop) (t : Tr α) (out : α → List Int) : Prop :=
  ∀ w1 R1 zs st s, (∀ b, R b → R1 b) → (∀ b, R b → w1.heap[b]? = w.heap[b]?) → zs.length ≤ 900 → P s → Lv d R1 w1 a wk ⟨zs, st, 0, true⟩ s → Calls Try.prog f args w1 (PostW d R1 w1 a wk out (run t ⟨zs, st, 0, true⟩ s))
section
variable {d : Wd} {R R' : Nat → Prop} {w w' w0 : World} {a st ph k me : Nat} {wk : Value} {zs : List Int} {c : Cur} {s : Sig} {n : Int} {α : Type} {P : Sig → Prop} {t : Tr α} {out : α → List Int}
theorem Works.kept {f : Nat} {args : Array Value} (h : Works d R w a f args wk P t out) (hs : ∀ b, R b → w'.heap[b]? = w.heap[b]?) : Works d R w' a f args wk P t out :=
  fun w1 R1 zs st s h1 h2 h3 h4 h5 => h w1 R1 zs st s h1 (fun b e => (h2 b e).trans (hs b e)) h3 h4 h5
theorem Rest.lt (h : Rest d R w a wk zs st s) : ∀ b, R b → b < w.heap.size := by obtain ⟨⟨k, h⟩, _⟩ := h; exact h.lt
/-- What a Step comes to. -/
def StepP {α : Type} (d : Wd) (R : Nat → Prop) (w : World) (a : Nat) (wk : Value) (out : α → List Int) (zs : List Int) (st : Nat) (o : Stp α) (e : Ending) (w' : World) : Prop :=
  Kp R w w' ∧ match o with
  | .done v s => e = .returned (.bool true) ∧ Ended d R w' a (out v) s
  | .more z s => e = .returned (.bool false) ∧ Rest d R w' a wk (zs ++ [z]) (st + 1) s
theorem step_tree {f : Nat} {cap args : Array Value} (hargs : #[ptr a] ++ cap = args) (hen : ∀ W : World, (callFunc f args).run Try.prog W = .ok (.enter f args) W)
    (hW : Works d R w a f args (.func (.func f) #[] cap) P t out) (h : Rest d R w a (.func (.func f) #[] cap) zs st s) (hp : path t zs s) (hfit : Fit s) (hP : P s) (hfew : zs.length + st ≤ 900) :
    Calls Try.prog 35 #[ptr a] w (StepP d R w a (.func (.func f) #[] cap) out zs st (stp (res t zs s) s)) := by
  obtain ⟨⟨k, F, FW, T, h1, h2, h3, h4⟩, hin⟩ := h
  have hFa := h1.fa
  have haR : ∀ b, R b → b < w.heap.size ∧ ¬ b = a := fun b e => ⟨(h4 b e).1, fun e2 => (h4 b e).2.1 (e2 ▸ h1.fa)⟩
  have haW : ∀ b, FW b → ¬ b = a := fun b e e2 => h3 a h1.fa (e2 ▸ e)
  refine (step_walk (G := fun b => b < w.heap.size ∧ ¬ R b)
    (RP := fun F' ws zs' st' w2 => ∃ v s' FW', stp (res t zs s) s = .done v s' ∧ ws = out v ∧ WS d FW' w2 s' ∧ (∀ b, F' b → ¬ FW' b) ∧ (∀ b, R b → b < w2.heap.size ∧ ¬ F' b ∧ ¬ FW' b) ∧ Kp R w w2)
    (WP := fun F' zs' st' w2 => ∃ z s' FW', stp (res t zs s) s = .more z s' ∧ zs' = zs ++ [z] ∧ st' = st + 1 ∧ WS d FW' w2 s' ∧ (∀ b, F' b → ¬ FW' b) ∧ (∀ b, R b → b < w2.heap.size ∧ ¬ F' b ∧ ¬ FW' b) ∧ Kp R w w2 ∧ ∀ z ∈ zs', in64 z)
    hargs hen h1 (fun b e => e.1) ?_).mono ?_
  · intro w1 hT hO
    have hlv : Lv d (fun b => R b ∨ (w.heap.size ≤ b ∧ b < w1.heap.size)) w1 a (.func (.func f) #[] cap) ⟨zs, st, 0, true⟩ s := by
      refine ⟨⟨F, FW, T, hT, h2.only hO haW, h3, ?_⟩, ⟨fun _ => Nat.zero_le _, fun e => by cases e⟩, by simpa using hfew, hin, fun _ => hfit⟩
      rintro b (e | e)
      · exact ⟨Nat.lt_of_lt_of_le (h4 b e).1 hO.size, (h4 b e).2⟩
      · exact ⟨e.2, fun f => by have := h1.lt b f; omega, fun f => by have := h2.lt b f; omega⟩
    refine (hW w1 _ zs st s (fun b e => .inl e) (fun b e => hO.block b (haR b e).1 (haR b e).2) (by omega) hP hlv).mono ?_
    intro e w2 hPW
    have hK0 : Kp R w w1 := Kp.only hO haR
    have hO2 : Only (fun b => b < w.heap.size ∧ ¬ R b) w1 w2 := ⟨hPW.1.os, hPW.1.tape, hPW.1.output, hPW.1.size, fun b hb hn => hPW.1.block b (by
      by_cases hR : R b
      · exact .inl hR
      · exact .inr ⟨by
          by_cases hl : b < w.heap.size
          · exact absurd ⟨hl, hR⟩ hn
          · omega, hb⟩)⟩
    have hK : Kp R w w2 := hK0.trans (hPW.1.mono fun b e => .inl e)
    refine ⟨hO2, ?_⟩
    rcases run_stp t zs st s hp with ⟨v, c', s', hr, hs⟩ | ⟨z, s', hr, hs⟩
    · rw [hr] at hPW
      obtain ⟨-, ⟨A, m, q, rfl, hsl, hl⟩, ⟨F', FW', T', q1, q2, q3, q4⟩, hok, -⟩ := hPW
      refine .inl ⟨F', T', c'.zs, c'.st, c'.k, phOf c'.live, A, m, q, out v, rfl, hsl, hl, ?_, ?_, q1, v, s', FW', hs, rfl, q2, q3, fun b e => q4 b (.inl e), hK⟩
      · unfold phOf; split <;> omega
      · unfold phOf; split <;> omega
    · rw [hr] at hPW
      obtain ⟨-, rfl, ⟨k', F', FW', T', q1, q2, q3, q4⟩, hi6⟩ := hPW
      exact .inr ⟨F', T', zs ++ [z], st + 1, k', rfl, q1, z, s', FW', hs, rfl, rfl, q2, q3, fun b e => q4 b (.inl e), hK, hi6⟩
  · rintro e w' (⟨w2, F', ws, zs', st', k', F'', O', rfl, ⟨v, s', FW', hs, rfl, q2, q3, q4, q5⟩, r1, r2, r3⟩ | ⟨w2, F', T', zs', st', k', rfl, ⟨z, s', FW', hs, rfl, rfl, q2, q3, q4, q5, q6⟩, r1, r2⟩)
    · rw [hs]
      have haw : a < w2.heap.size := Nat.lt_of_lt_of_le (h1.lt a hFa) q5.size
      have hF'a : F' a := (r3 a r1.fa).elim id fun e => by omega
      have hFW : ∀ b, FW' b → ¬ b = a := fun b e e2 => q3 a hF'a (e2 ▸ e)
      refine ⟨q5.trans (Kp.only r2 fun b e => ⟨(q4 b e).1, (haR b e).2⟩), rfl, F'', FW', st', k', O', r1, q2.only r2 hFW, ?_, ?_⟩
      · intro b e f
        rcases r3 b e with e | e
        · exact q3 b e f
        · have := q2.lt b f; omega
      · intro b e
        refine ⟨Nat.lt_of_lt_of_le (q4 b e).1 r2.size, fun f => ?_, (q4 b e).2.2⟩
        rcases r3 b f with f | f
        · exact (q4 b e).2.1 f
        · have := (q4 b e).1; omega
    · rw [hs]
      have hFW : ∀ b, FW' b → ¬ b = a := fun b e e2 => q3 a r1.fa (e2 ▸ e)
      exact ⟨q5.trans (Kp.only r2 fun b e => ⟨(q4 b e).1, (haR b e).2⟩), rfl, ⟨k', F', FW', T', r1, q2.only r2 hFW, q3, fun b e => ⟨Nat.lt_of_lt_of_le (q4 b e).1 r2.size, (q4 b e).2⟩⟩, q6⟩

/-- A world that nobody is at. -/
def Idle (d : Wd) (R : Nat → Prop) (w : World) (s : Sig) : Prop := ∃ FW, WS d FW w s ∧ ∀ b, R b → b < w.heap.size ∧ ¬ FW b
theorem Idle.lt (h : Idle d R w s) : ∀ b, R b → b < w.heap.size := by obtain ⟨FW, _, h⟩ := h; exact fun b e => (h b e).1
theorem Idle.mono (h : Idle d R w s) (hs : ∀ b, R' b → R b) : Idle d R' w s := by obtain ⟨FW, h1, h2⟩ := h; exact ⟨FW, h1, fun b e => h2 b (hs b e)⟩
theorem Idle.more (h : Idle d R w s) (hb : Below w.heap.size w w') (hs : ∀ b, R' b → R b ∨ (w.heap.size ≤ b ∧ b < w'.heap.size)) : Idle d R' w' s := by
  obtain ⟨FW, h1, h2⟩ := h
  refine ⟨FW, h1.below hb, fun b e => ?_⟩
  rcases hs b e with e | e
  · exact ⟨Nat.lt_of_lt_of_le (h2 b e).1 hb.size, (h2 b e).2⟩
  · exact ⟨e.2, fun f => by have := h1.lt b f; omega⟩
theorem Ended.idle {os : List Int} (h : Ended d R w a os s) : Idle d R w s := by
  obtain ⟨F, FW, st, k, O, h1, h2, h3, h4⟩ := h; exact ⟨FW, h2, fun b e => ⟨(h4 b e).1, (h4 b e).2.2⟩⟩
theorem Idle.nx {FW : Nat → Prop} {s' : Sig} (h1 : WS d FW w s) (h2 : ∀ b, R b → b < w.heap.size ∧ ¬ FW b) (h : NxW d FW w s' w') : Idle d R w' s' ∧ Kp R w w' := by
  obtain ⟨F', k1, k2, k3⟩ := h
  refine ⟨⟨F', k1, fun b e => ⟨Nat.lt_of_lt_of_le (h2 b e).1 k2.size, fun f => ?_⟩⟩, Kp.only k2 h2⟩
  rcases k3 b f with f | f
  · exact (h2 b e).2 f
  · have := (h2 b e).1; omega

/-- Start's closure. -/
theorem start1_walk {g : Nat} {capw args : Array Value} {B1 B2 B3 : Nat} {out : α → List Int} {o : Out α} (hargs : #[tkV a d.W me] ++ capw = args) (hen : ∀ W : World, (callFunc g args).run Try.prog W = .ok (.enter g args) W)
    (c3 : w.cell? ⟨B3, 0, none⟩ = some (.func (.func g) #[] capw)) (c1 : w.cell? ⟨B1, 0, none⟩ = some (ptr d.W)) (c2 : w.cell? ⟨B2, 0, none⟩ = some (.int .i64 (me : Int)))
    (hw : Calls Try.prog g args w (PostW d R w a wk out o)) :
    Calls Try.prog 60 #[ptr a, ptr B3, ptr B1, ptr B2] w (PostW d R w a wk out o) := by
  have HW := Lib.hid hw
  clear hw
  go_enter Try.func60, Try.ntmps60
  go_wp2_with fail
  refine HW.out.mono ?_
  intro e w1 hP
  cases o with
  | wait zs st s' =>
    obtain ⟨k1, rfl, k2⟩ := hP
    exact ⟨rfl, k1, rfl, k2⟩
  | ret v c' s' =>
    have HE := Lib.hid hP
    obtain ⟨k1, ⟨A, n, q, rfl, k3, k4⟩, k2⟩ := hP
    clear k1 k2 k3 k4 HW c1 c2 c3
    go_wp2
    go_ret
    exact HE.out
/-- Where a thread that was started has what it needs. -/
structure Bx (w : World) (W me g : Nat) (capw : Array Value) (B1 B2 B3 : Nat) : Prop where
  c1 : w.cell? ⟨B1, 0, none⟩ = some (ptr W)
  c2 : w.cell? ⟨B2, 0, none⟩ = some (.int .i64 (me : Int))
  c3 : w.cell? ⟨B3, 0, none⟩ = some (.func (.func g) #[] capw)
abbrev wkV (B1 B2 B3 : Nat) : Value := .func (.func 60) #[] #[ptr B3, ptr B1, ptr B2]
/-- Work of a thread that was started. -/
theorem start_works {g : Nat} {capw args : Array Value} {B1 B2 B3 : Nat} (hargs : #[tkV a d.W me] ++ capw = args) (hen : ∀ W : World, (callFunc g args).run Try.prog W = .ok (.enter g args) W) (hx : Bx w d.W me g capw B1 B2 B3) (r1 : R B1) (r2 : R B2) (r3 : R B3)
    (hw : Works d R w a g args (wkV B1 B2 B3) P t out) : Works d R w a 60 #[ptr a, ptr B3, ptr B1, ptr B2] (wkV B1 B2 B3) P t out := by
  intro w1 R1 zs st s h1 h2 h3 h4 h5
  exact start1_walk hargs hen (cell_same (h2 _ r3) hx.c3) (cell_same (h2 _ r1) hx.c1) (cell_same (h2 _ r2) hx.c2) (hw w1 R1 zs st s h1 h2 h3 h4 h5)
/-- Start: a thread, with its boxes. -/
def Started (d : Wd) (R : Nat → Prop) (w : World) (me g : Nat) (capw : Array Value) (s : Sig) (e : Ending) (w' : World) : Prop :=
  ∃ a B1 B2 B3, e = .returned (ptr a) ∧ Bx w' d.W me g capw B1 B2 B3 ∧ Rest d (fun b => R b ∨ b = B1 ∨ b = B2 ∨ b = B3) w' a (wkV B1 B2 B3) [] 0 s ∧ Below w.heap.size w w' ∧ w.heap.size ≤ B1 ∧ w.heap.size ≤ B2 ∧ w.heap.size ≤ B3 ∧ w.heap.size ≤ a ∧ a < w'.heap.size
theorem start_boxes (w : World) (W me : Nat) (g : Nat) (capw : Array Value) : ∃ (X : World) (B1 B2 B3 : Nat), ((w.alloc (.cells #[ptr W] 25)).alloc (.cells #[.int .i64 (me : Int)] 3)).alloc (.cells #[.func (.func g) #[] capw] 75) = X ∧ w.heap.size = B1 ∧ B1 + 1 = B2 ∧ B2 + 1 = B3 ∧ Below w.heap.size w X ∧ Bx X W me g capw B1 B2 B3 ∧ X.heap.size = B3 + 1 :=
  ⟨_, _, _, _, rfl, rfl, rfl, rfl, (((Below.refl _ w).alloc (Nat.le_refl _) _).alloc (by simp) _).alloc (by simp; omega) _, ⟨c_old (c_old (c_new rfl rfl)), c_old (c_new (by simp) rfl), c_new (by simp) rfl⟩, by simp⟩
theorem start_walk {g : Nat} {capw : Array Value} (h : Idle d R w s) : Calls Try.prog 31 #[ptr d.W, .int .i64 (me : Int), .func (.func g) #[] capw] w (Started d R w me g capw s) := by
  have e3 := mk_fn
  obtain ⟨X, B1, B2, B3, hX, h1, h2, h3, bb, hx, hs⟩ := start_boxes w d.W me g capw
  have HD := Lib.hid (new_func (.func 60) #[] #[ptr B3, ptr B1, ptr B2] X)
  have HE : Hid (∀ e w', (e = .returned (ptr X.heap.size) ∧ Th (fun b => b = X.heap.size) w' X.heap.size (wkV B1 B2 B3) [] 0 (.slice none 0 0) [] 0 0 (.slice none 0 0) ∧ Below X.heap.size X w') → Started d R w me g capw s e w') := by
    rintro e w' ⟨rfl, k1, k2⟩
    obtain ⟨FW, q1, q2⟩ := h
    have hw' : X.heap.size < w'.heap.size := k1.lt _ rfl
    refine ⟨X.heap.size, B1, B2, B3, rfl, ⟨below_read k2 hx.c1, below_read k2 hx.c2, below_read k2 hx.c3⟩, ⟨⟨0, _, FW, _, k1, (q1.below bb).below k2, ?_, ?_⟩, fun z hz => by cases hz⟩, bb.trans (k2.mono bb.size), by omega, by omega, by omega, by omega, hw'⟩
    · intro b e f; have := q1.lt b f; omega
    · rintro b (e | e | e | e)
      · exact ⟨by have := (q2 b e).1; omega, by have := (q2 b e).1; omega, (q2 b e).2⟩
      · exact ⟨by omega, by omega, fun f => by have := q1.lt b f; omega⟩
      · exact ⟨by omega, by omega, fun f => by have := q1.lt b f; omega⟩
      · exact ⟨by omega, by omega, fun f => by have := q1.lt b f; omega⟩
  clear h hx bb hs
  go_enter Try.func31, Try.ntmps31
  go_wp2_with fail
  refine HD.out.mono ?_
  intro e w' hP
  have HQ := Lib.hid (HE.out e w' hP)
  obtain ⟨rfl, -, -⟩ := hP
  clear HD HE
  go_wp2
  go_ret
  exact HQ.out
end
end Go.Proofs.Ytmhmgdpcibldlaa
