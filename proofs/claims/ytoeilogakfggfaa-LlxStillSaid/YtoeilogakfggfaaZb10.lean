/-
  LlxStill's threads as trees: what each comes to, whatever the other does in between.
-/
import Derived.Test.YtoeilogakfggfaaZa10
namespace Go.Proofs.Ytoeilogakfggfaa
open Go.ChangeShapes Go.WideShapes Go.ChangeAt Go.RowKit
set_option linter.unusedVariables false
set_option linter.unusedSimpArgs false
set_option maxRecDepth 20000

def fstW (l : List Sn) (i : Nat) : Int := (l.getD i Sn.nil).ws.getD 0 0
abbrev twoN : List (Int × Nd) := [(rfN 0, nodeNd 0), (rfN 1, nodeNd 1)]
/-- The reader, with so many tries. -/
def tRd : Nat → Tr (List Int)
  | 0 => .ret []
  | k + 1 => (tLoads [] twoN).bind fun y => if y.2 = true then (tStill y.1).bind fun b => if b = true then .ret [fstW y.1 0, fstW y.1 1] else tRd k else tRd k
/-- The writer: change i is the next one, so many are left. -/
def tWr (X : Nat → Nat) : Nat → Nat → Tr (List Int)
  | _, 0 => .ret [1]
  | i, k + 1 => (tLoads [] [(rfN (X i), nodeNd (X i))]).bind fun y => if y.2 = true then (tStore 40 y.1 1 0 (zwv (X i) (zla X (X i) i)) (300 + (i : Int))).bind fun z => if z.1 = true then tWr X (i + 1) k else .ret [] else .ret []
/-- What the other thread may come to in between. -/
def zRl (c : Nat) (wr : Bool) (t t' : Nat) : Prop := t ≤ t' ∧ t' ≤ 5 * c ∧ (wr = true → t' ≤ (t + 4) / 5 * 5)
/-- What a thread's touch comes to. -/
def zGu (c : Nat) (wr : Bool) (t t' : Nat) : Prop := t' ≤ 5 * c ∧ (t' = t ∨ t' = t + 1 ∧ (wr = false → t % 5 ≠ 0))
/-- At most k touches behind it, as far as nothing else goes on. -/
def zC (c : Nat) (wr : Bool) (t n k t' n' : Nat) : Prop := zRl c wr t t' ∧ n ≤ n' + k ∧ n' ≤ 100
def zMv (c t t' : Nat) : Prop := t' = t ∨ t' = t + 1 ∧ t % 5 ≠ 0 ∧ t + 1 ≤ 5 * c
/-- Whatever the other does, each touch leads to a state of the line; what is left at the end. -/
def zG {α : Type} (X : Nat → Nat) (c : Nat) (wr : Bool) (Q : α → Nat → Nat → Prop) : Tr α → Nat → Nat → Prop
  | .ret v, t, n => Q v t n
  | .tch g K, t, n => ∀ t', zRl c wr t t' → ∃ t2 n', (g (zS X t')).2 = zS X t2 ∧ zGu c wr t' t2 ∧ n' ≤ 100 ∧ (wr = true ∨ t' = 5 * c → n' + 1 ≤ n) ∧ zG X c wr Q (K (g (zS X t')).1) t2 n'
  | .lk m K, t, n => zG X c wr Q (K (rcOf (zS X t).rs m)) t n
section
variable {α β : Type} {X : Nat → Nat} {c : Nat} {wr : Bool} {t t' t2 n n' n2 k k2 i j m x : Nat} {Q : α → Nat → Nat → Prop} {Q' : β → Nat → Nat → Prop}
theorem zRl.refl (h : t ≤ 5 * c) : zRl c wr t t := ⟨Nat.le_refl _, h, fun _ => by omega⟩
theorem zRl.trans (h : zRl c wr t t') (h2 : zRl c wr t' t2) : zRl c wr t t2 := by
  obtain ⟨a1, a2, a3⟩ := h
  obtain ⟨b1, b2, b3⟩ := h2
  exact ⟨by omega, b2, fun e => by have := a3 e; have := b3 e; omega⟩
theorem zRl.mv (h : zRl c wr t t') (h2 : zMv c t' t2) : zRl c wr t t2 := by
  obtain ⟨a1, a2, a3⟩ := h
  rcases h2 with rfl | ⟨rfl, h3, h4⟩
  · exact ⟨a1, a2, a3⟩
  · exact ⟨by omega, h4, fun e => by have := a3 e; omega⟩
theorem zMv.gu (h : zMv c t t') (ht : t ≤ 5 * c) : zGu c wr t t' := by
  rcases h with rfl | ⟨rfl, h3, h4⟩
  · exact ⟨ht, .inl rfl⟩
  · exact ⟨h4, .inr ⟨rfl, fun _ => h3⟩⟩
theorem zC.trans (h : zC c wr t n k t' n') (h2 : zC c wr t' n' k2 t2 n2) : zC c wr t n (k + k2) t2 n2 := ⟨h.1.trans h2.1, by have := h.2.1; have := h2.2.1; omega, h2.2.2⟩
theorem zC.le (h : zC c wr t n k t' n') (hk : k ≤ k2) : zC c wr t n k2 t' n' := ⟨h.1, by have := h.2.1; omega, h.2.2⟩
theorem zC.top (h : zC c wr t n k t' n') : t' ≤ 5 * c := h.1.2.1
theorem zC.up (h : zC c wr t n k t' n') : t ≤ t' := h.1.1
theorem zG_bind {K : α → Tr β} (u : Tr α) (h : zG X c wr Q u t n) (hK : ∀ v t' n', Q v t' n' → zG X c wr Q' (K v) t' n') : zG X c wr Q' (u.bind K) t n := by
  induction u generalizing t n with
  | ret v => exact hK _ _ _ h
  | tch g K' ih =>
    intro t' hr
    obtain ⟨a, b, h1, h2, h3, h4, h5⟩ := h t' hr
    exact ⟨a, b, h1, h2, h3, h4, ih _ h5⟩
  | lk m K' ih => exact ih _ h
theorem zG_step {g : Sig → Int × Sig} {K : Int → Tr α} (hn : 1 ≤ n) (hm : n ≤ 100) (h : ∀ t', zRl c wr t t' → ∃ v t2, g (zS X t') = (v, zS X t2) ∧ zGu c wr t' t2 ∧ zG X c wr Q (K v) t2 (n - 1)) : zG X c wr Q (.tch g K) t n := by
  intro t' hr
  obtain ⟨v, t2, e, h1, h2⟩ := h t' hr
  exact ⟨t2, n - 1, by rw [e], h1, by omega, fun _ => by omega, by rw [e]; exact h2⟩
/-- Ahead of a touch: from when it comes. -/
theorem zG_at {u : Tr α} (hu : ∃ g K, u = .tch g K) (h : ∀ t', zRl c wr t t' → ∃ m, (wr = true ∨ t' = 5 * c → m ≤ n) ∧ zG X c wr Q u t' m) : zG X c wr Q u t n := by
  obtain ⟨g, K, rfl⟩ := hu
  intro t' hr
  obtain ⟨m, h1, h2⟩ := h t' hr
  obtain ⟨a, b, k1, k2, k3, k4, k5⟩ := h2 t' (zRl.refl hr.2.1)
  exact ⟨a, b, k1, k2, k3, fun e => by have := k4 e; have := h1 e; omega, k5⟩
theorem zG_one {g : Sig → Int × Sig} {f : Int → α} {P : α → Nat → Prop} (hn : 1 ≤ n) (hm : n ≤ 100) (h : ∀ t', zRl c wr t t' → ∃ v, g (zS X t') = (v, zS X t') ∧ P (f v) t') : zG X c wr (fun y t' n' => P y t' ∧ zC c wr t n 1 t' n') (.tch g fun z => .ret (f z)) t n :=
  zG_step hn hm fun t' hr => by
    obtain ⟨v, e, p⟩ := h t' hr
    exact ⟨v, t', e, ⟨hr.2.1, .inl rfl⟩, p, hr, by omega, by omega⟩
theorem zG_mark (hx : x < 2) (hn : 1 ≤ n) (hm : n ≤ 100) : zG X c wr (fun y t' n' => y = false ∧ zC c wr t n 1 t' n') (tMark (rfN x)) t n :=
  zG_one (P := fun y _ => y = false) hn hm fun t' hr => ⟨0, z_mark hx, rfl⟩
theorem zG_info (hx : x < 2) (hn : 1 ≤ n) (hm : n ≤ 100) : zG X c wr (fun y t' n' => y = (zla X x ((t' + 3) / 5) : Int) ∧ zC c wr t n 1 t' n') (tDo (gInfo (rfN x))) t n :=
  zG_one (P := fun y t' => y = (zla X x ((t' + 3) / 5) : Int)) (f := id) hn hm fun t' hr => ⟨_, z_info hx, rfl⟩
theorem zG_way0 (hx : x < 2) (hn : 1 ≤ n) (hm : n ≤ 100) : zG X c wr (fun y t' n' => y = zwv x (zla X x ((t' + 1) / 5)) ∧ zC c wr t n 1 t' n') (tDo (gWay (rfN x) 0)) t n :=
  zG_one (P := fun y t' => y = zwv x (zla X x ((t' + 1) / 5))) (f := id) hn hm fun t' hr => ⟨_, z_way0 hx, rfl⟩
theorem zG_way1 (hx : x < 2) (hn : 1 ≤ n) (hm : n ≤ 100) : zG X c wr (fun y t' n' => y = 201 + 10 * (x : Int) ∧ zC c wr t n 1 t' n') (tDo (gWay (rfN x) 1)) t n :=
  zG_one (P := fun y t' => y = 201 + 10 * (x : Int)) (f := id) hn hm fun t' hr => ⟨_, z_way1 hx, rfl⟩
/-- A number that was told at time t. -/
def zNum (c t m : Nat) : Prop := m = 0 ∨ ∃ j, m = j + 1 ∧ 5 * j + 1 ≤ t ∧ j < c
theorem zNum.le (h : zNum c t m) (ht : t ≤ t') : zNum c t' m := h.imp id fun ⟨j, a, b, d⟩ => ⟨j, a, by omega, d⟩
theorem zNum_la (h : t ≤ 5 * c) : zNum c t (zla X x ((t + 3) / 5)) := by
  have h1 : zla X x ((t + 3) / 5) ≤ (t + 3) / 5 := zla_le
  by_cases e : zla X x ((t + 3) / 5) = 0
  · exact .inl e
  · exact .inr ⟨zla X x ((t + 3) / 5) - 1, by omega, by omega, by omega⟩
theorem zG_state (hm : zNum c t m) (hn : 1 ≤ n) (hn2 : n ≤ 100) : zG X c wr (fun y t' n' => (m = 0 ∧ y = 0 ∨ 1 ≤ m ∧ (y = 2 ∧ 5 * m ≤ t' ∨ y = 1 ∧ t' < 5 * m)) ∧ zC c wr t n 1 t' n') (tState (m : Int)) t n :=
  zG_one (P := fun y t' => m = 0 ∧ y = 0 ∨ 1 ≤ m ∧ (y = 2 ∧ 5 * m ≤ t' ∨ y = 1 ∧ t' < 5 * m)) (f := u8w) hn hn2 fun t' hr => by
    rcases hm with rfl | ⟨j, rfl, h1, h2⟩
    · exact ⟨0, z_state0, .inl ⟨rfl, rfl⟩⟩
    · have := hr.1
      refine ⟨_, z_state (j := j) (by omega), .inr ⟨by omega, ?_⟩⟩
      by_cases e : 5 * j + 5 ≤ t'
      · rw [if_pos e]; exact .inl ⟨rfl, by omega⟩
      · rw [if_neg e]; exact .inr ⟨rfl, by omega⟩
theorem zG_take (hX : X i < 2) (hi : i < c) (h : 5 * i + 1 ≤ t) (hn : 2 ≤ n) (hn2 : n ≤ 100) : zG X c wr (fun b t' n' => (b = true ∧ 5 * i + 2 ≤ t' ∨ b = false ∧ 5 * i + 5 ≤ t') ∧ zC c wr t n 2 t' n') (tTake (rfN (X i)) (zla X (X i) i : Int) ((i : Int) + 1)) t n := by
  refine zG_step (by omega) hn2 fun t1 h1 => ?_
  have ht := h1.1
  rw [z_swap hX (by omega)]
  by_cases e : t1 = 5 * i + 1
  · rw [if_pos e]
    have hmv : zMv c t1 (t1 + 1) := .inr ⟨rfl, by omega, by omega⟩
    exact ⟨1, t1 + 1, rfl, hmv.gu h1.2.1, .inl ⟨rfl, by omega⟩, h1.mv hmv, by omega, by omega⟩
  · rw [if_neg e]
    refine ⟨0, t1, rfl, ⟨h1.2.1, .inl rfl⟩, ?_⟩
    show zG X c wr _ (.tch (gInfo (rfN (X i))) fun y => .ret (y == (i : Int) + 1)) t1 (n - 1)
    refine zG_step (by omega) (by omega) fun t2 h2 => ⟨_, t2, z_info hX, ⟨h2.2.1, .inl rfl⟩, ?_⟩
    have ht2 := h2.1
    have m1 : zla X (X i) (i + 1) ≤ zla X (X i) ((t2 + 3) / 5) := zla_mono (by omega)
    rw [zla_hit rfl] at m1
    have m2 : zla X (X i) ((t2 + 3) / 5) ≤ (t2 + 3) / 5 := zla_le
    refine ⟨?_, h1.trans h2, by omega, by omega⟩
    by_cases q : ((zla X (X i) ((t2 + 3) / 5) : Nat) : Int) = (i : Int) + 1
    · exact .inl ⟨by simp [q], by omega⟩
    · exact .inr ⟨by simp [q], by omega⟩
theorem zG_finish (hX : X i < 2) (hi : i < c) (h : 5 * i + 2 ≤ t) (hn : 3 ≤ n) (hn2 : n ≤ 100) : zG X c wr (fun _ t' n' => 5 * i + 5 ≤ t' ∧ zC c wr t n 3 t' n') (tFinish (zrc X i) ((i : Int) + 1)) t n := by
  refine zG_step (by omega) hn2 fun t1 h1 => ?_
  have e1 := h1.1
  obtain ⟨t2, q1, q2, q3⟩ : ∃ t2, gSetAll ((i : Int) + 1) (zS X t1) = (0, zS X t2) ∧ 5 * i + 3 ≤ t2 ∧ zMv c t1 t2 := by
    by_cases e : t1 = 5 * i + 2
    · exact ⟨t1 + 1, by rw [z_setAll (by omega), if_pos e], by omega, .inr ⟨rfl, by omega, by omega⟩⟩
    · exact ⟨t1, by rw [z_setAll (by omega), if_neg e], by omega, .inl rfl⟩
  refine ⟨0, t2, q1, q3.gu h1.2.1, ?_⟩
  have h2 := h1.mv q3
  show zG X c wr _ (.tch (gSwapWay (rfN (X i)) 0 (zwv (X i) (zla X (X i) i)) (300 + (i : Int))) fun _ => .tch (gSet ((i : Int) + 1) 2) fun _ => .ret ()) t2 (n - 1)
  refine zG_step (by omega) (by omega) fun t3 h3 => ?_
  have e3 := h3.1
  obtain ⟨z, hz⟩ := z_swapWay (X := X) (t := t3) hX (by omega)
  obtain ⟨t4, q4, q5, q6⟩ : ∃ t4, gSwapWay (rfN (X i)) 0 (zwv (X i) (zla X (X i) i)) (300 + (i : Int)) (zS X t3) = (z, zS X t4) ∧ 5 * i + 4 ≤ t4 ∧ zMv c t3 t4 := by
    by_cases e : t3 = 5 * i + 3
    · exact ⟨t3 + 1, by rw [hz, if_pos e], by omega, .inr ⟨rfl, by omega, by omega⟩⟩
    · exact ⟨t3, by rw [hz, if_neg e], by omega, .inl rfl⟩
  refine ⟨z, t4, q4, q6.gu h3.2.1, ?_⟩
  have h4 := (h2.trans h3).mv q6
  refine zG_step (by omega) (by omega) fun t5 h5 => ?_
  have e5 := h5.1
  obtain ⟨t6, q7, q8, q9⟩ : ∃ t6, gSet ((i : Int) + 1) 2 (zS X t5) = (0, zS X t6) ∧ 5 * i + 5 ≤ t6 ∧ zMv c t5 t6 := by
    by_cases e : t5 = 5 * i + 4
    · exact ⟨t5 + 1, by rw [z_set (by omega), if_pos e], by omega, .inr ⟨rfl, by omega, by omega⟩⟩
    · exact ⟨t5, by rw [z_set (by omega), if_neg e], by omega, .inl rfl⟩
  exact ⟨0, t6, q7, q9.gu h5.2.1, q8, (h4.trans h5).mv q9, by omega, by omega⟩
theorem zG_help (hX : X i < 2) (hi : i < c) (h : 5 * i + 1 ≤ t) (hn : 5 ≤ n) (hn2 : n ≤ 100) : zG X c wr (fun b t' n' => (b = true ∧ 5 * i + 5 ≤ t') ∧ zC c wr t n 5 t' n') (tHelpL ((i : Int) + 1)) t n := by
  show zG X c wr _ (tHelp (rcOf (zS X t).rs ((i : Int) + 1)) ((i : Int) + 1)) t n
  rw [z_rc h]
  show zG X c wr _ ((tTake (rfN (X i)) (zla X (X i) i : Int) ((i : Int) + 1)).bind fun b => if b = true then (tFinish (zrc X i) ((i : Int) + 1)).bind fun _ => .ret true else tSettle ((i : Int) + 1)) t n
  refine zG_bind _ (zG_take hX hi h (by omega) hn2) fun b t1 n1 ⟨h1, c1⟩ => ?_
  have := c1.2.1
  have := c1.2.2
  rcases h1 with ⟨rfl, h1⟩ | ⟨rfl, h1⟩
  · rw [if_pos rfl]
    refine zG_bind _ (zG_finish hX hi h1 (by omega) (by omega)) fun _ t2 n2 ⟨h2, c2⟩ => ?_
    exact ⟨⟨rfl, h2⟩, c1.trans c2⟩
  · rw [if_neg (by decide)]
    refine zG_step (by omega) (by omega) fun t2 h2 => ⟨1, t2, z_all (by have := h2.1; omega), ⟨h2.2.1, .inl rfl⟩, ?_⟩
    exact ⟨⟨rfl, by have := h2.1; omega⟩, c1.1.trans h2, by omega, by omega⟩
theorem zG_bring (hX : ∀ j, X j < 2) (hm : zNum c t m) (hn : 6 ≤ n) (hn2 : n ≤ 100) : zG X c wr (fun _ t' n' => zC c wr t n 6 t' n') (tBring (m : Int)) t n := by
  refine zG_bind _ (zG_state hm (by omega) hn2) fun y t1 n1 ⟨h1, c1⟩ => ?_
  have := c1.2.1
  have := c1.2.2
  rcases h1 with ⟨rfl, rfl⟩ | ⟨h0, ⟨rfl, h1⟩ | ⟨rfl, h1⟩⟩
  · rw [if_neg (by decide), if_neg (by decide)]
    exact c1.le (by omega)
  · rw [if_pos rfl]
    exact c1.le (by omega)
  · rw [if_neg (by decide), if_pos rfl]
    rcases hm with rfl | ⟨j, rfl, h2, h3⟩
    · omega
    · have := c1.up
      have hh := zG_help (X := X) (c := c) (wr := wr) (hX j) h3 (t := t1) (n := n1) (by omega) (by omega) (by omega)
      have e := zG_bind (K := .ret) (Q' := fun _ t' n' => zC c wr t n 6 t' n') _ hh fun b t2 n2 ⟨_, c2⟩ => (show zC c wr t n 6 t2 n2 from c1.trans c2)
      rw [Tr.bind_ret] at e
      exact e
theorem zG_rest (hX : ∀ j, X j < 2) (hx : x < 2) (hm : zNum c t m) (hn : 13 ≤ n) (hn2 : n ≤ 100) : zG X c wr (fun y t' n' => y.2 = 1 ∧ zC c wr t n 13 t' n') (tRest (rfN x) (m : Int) false) t n := by
  refine zG_bind _ (zG_bring hX hm (by omega) hn2) fun b t1 n1 c1 => ?_
  have := c1.2.1
  have := c1.2.2
  rw [Bool.and_false, if_neg (by decide)]
  refine zG_bind _ (zG_info hx (by omega) (by omega)) fun y t2 n2 ⟨h2, c2⟩ => ?_
  have := c2.2.1
  have := c2.2.2
  subst h2
  refine zG_bind _ (zG_bring hX (zNum_la c2.top) (by omega) (by omega)) fun _ t3 n3 c3 => ?_
  exact ⟨rfl, ((c1.trans c2).trans c3).le (by omega)⟩
theorem zG_read (hx : x < 2) (hn : 3 ≤ n) (hn2 : n ≤ 100) : zG X c wr (fun y t' n' => (∃ ta, t ≤ ta ∧ ta ≤ t' ∧ y = (⟨rfN x, (m : Int), nodeNd x, [zwv x (zla X x ((ta + 1) / 5)), 201 + 10 * (x : Int)]⟩, ((zla X x ((t' + 3) / 5) : Int) == (m : Int)))) ∧ zC c wr t n 3 t' n') (tRead (rfN x) (m : Int) (nodeNd x)) t n := by
  show zG X c wr _ (((tDo (gWay (rfN x) 0)).bind fun z => (tDo (gWay (rfN x) 1)).bind fun z2 => .ret [z, z2]).bind fun ws => (tDo (gInfo (rfN x))).bind fun y => .ret ((⟨rfN x, (m : Int), nodeNd x, ws⟩ : Sn), y == (m : Int))) t n
  rw [Tr.bind_bind]
  refine zG_bind _ (zG_way0 hx (by omega) hn2) fun z t1 n1 ⟨h1, c1⟩ => ?_
  have := c1.2.1
  have := c1.2.2
  rw [Tr.bind_bind]
  refine zG_bind _ (zG_way1 hx (by omega) (by omega)) fun z2 t2 n2 ⟨h2, c2⟩ => ?_
  have := c2.2.1
  have := c2.2.2
  show zG X c wr _ ((tDo (gInfo (rfN x))).bind fun y => .ret ((⟨rfN x, (m : Int), nodeNd x, [z, z2]⟩ : Sn), y == (m : Int))) t2 n2
  refine zG_bind _ (zG_info hx (by omega) (by omega)) fun y t3 n3 ⟨h3, c3⟩ => ?_
  subst h1 h2 h3
  exact ⟨⟨t1, c1.up, by have := c2.up; have := c3.up; omega, rfl⟩, (c1.trans c2).trans c3⟩
def zSn (x m : Nat) : Sn := ⟨rfN x, (m : Int), nodeNd x, [zwv x m, 201 + 10 * (x : Int)]⟩
theorem zG_load (hX : ∀ j, X j < 2) (hx : x < 2) (ht : t ≤ 5 * c) (hn : 20 ≤ n ∨ 7 ≤ n ∧ t = 5 * c) (hn2 : n ≤ 100) : zG X c wr (fun y t' n' => y.2 = 0 ∧ (y.1 = zSn x (zla X x ((t' + 3) / 5)) ∧ 5 * zla X x ((t' + 3) / 5) ≤ t') ∧ zC c wr t n 7 t' n' ∨ y.2 = 1 ∧ ¬ (t' = t ∧ t % 5 = 0) ∧ zC c wr t n 20 t' n') (tLoad (rfN x) (nodeNd x)) t n := by
  refine zG_bind _ (zG_mark hx (by omega) hn2) fun mk t1 n1 ⟨h1, c1⟩ => ?_
  have := c1.2.1
  have := c1.2.2
  refine zG_bind _ (zG_info hx (by omega) (by omega)) fun y t2 n2 ⟨h2, c2⟩ => ?_
  have := c2.2.1
  have := c2.2.2
  subst h1 h2
  obtain ⟨m, hm⟩ : ∃ m, zla X x ((t2 + 3) / 5) = m := ⟨_, rfl⟩
  have hN := zNum_la (X := X) (x := x) c2.top
  have hle : zla X x ((t2 + 3) / 5) ≤ (t2 + 3) / 5 := zla_le
  rw [hm] at hN hle ⊢
  refine zG_bind _ (zG_state hN (by omega) (by omega)) fun st t3 n3 ⟨h3, c3⟩ => ?_
  have := c3.2.1
  have := c3.2.2
  refine zG_bind _ (zG_mark hx (by omega) (by omega)) fun m2 t4 n4 ⟨h4, c4⟩ => ?_
  have := c4.2.1
  have := c4.2.2
  subst h4
  have hc4 := ((c1.trans c2).trans c3).trans c4
  have l1 := c1.up
  have l2 := c2.up
  have l3 := c3.up
  have l4 := c4.up
  have hcc := c4.top
  have hrest : ∀ t5 n5, zC c wr t4 n4 3 t5 n5 → (t5 = t → t % 5 = 0 → False) → zG X c wr (fun y t' n' => y.2 = 0 ∧ (y.1 = zSn x (zla X x ((t' + 3) / 5)) ∧ 5 * zla X x ((t' + 3) / 5) ≤ t') ∧ zC c wr t n 7 t' n' ∨ y.2 = 1 ∧ ¬ (t' = t ∧ t % 5 = 0) ∧ zC c wr t n 20 t' n') (tRest (rfN x) (m : Int) false) t5 n5 := fun t5 n5 c5 hno => by
    have k1 := c5.2.1
    have k2 := c5.2.2
    have k3 := c5.up
    have k4 := c5.top
    have hn20 : 20 ≤ n := by
      rcases hn with e | e
      · exact e
      · exact (hno (by omega) (by omega)).elim
    have e := zG_bind (K := .ret) (Q' := fun (y : Sn × Int) t' n' => y.2 = 0 ∧ (y.1 = zSn x (zla X x ((t' + 3) / 5)) ∧ 5 * zla X x ((t' + 3) / 5) ≤ t') ∧ zC c wr t n 7 t' n' ∨ y.2 = 1 ∧ ¬ (t' = t ∧ t % 5 = 0) ∧ zC c wr t n 20 t' n') _ (zG_rest (X := X) (wr := wr) hX hx (hN.le (t' := t5) (by omega)) (n := n5) (by omega) (by omega)) fun y t6 n6 ⟨h6, c6⟩ => .inr ⟨h6, fun q => hno (by have := c6.up; omega) q.2, ((hc4.trans c5).trans c6).le (by omega)⟩
    rw [Tr.bind_ret] at e
    exact e
  have hgo : ∀ h5 : m = 0 ∨ 5 * m ≤ t3, zG X c wr (fun y t' n' => y.2 = 0 ∧ (y.1 = zSn x (zla X x ((t' + 3) / 5)) ∧ 5 * zla X x ((t' + 3) / 5) ≤ t') ∧ zC c wr t n 7 t' n' ∨ y.2 = 1 ∧ ¬ (t' = t ∧ t % 5 = 0) ∧ zC c wr t n 20 t' n') ((tRead (rfN x) (m : Int) (nodeNd x)).bind fun x_1 => if x_1.2 = true then .ret (x_1.1, 0) else tRest (rfN x) (m : Int) false) t4 n4 := fun h5 => by
    refine zG_bind _ (zG_read hx (m := m) (by omega) (by omega)) fun y t5 n5 ⟨⟨ta, a1, a2, hy⟩, c5⟩ => ?_
    have hle5 : zla X x ((t5 + 3) / 5) ≤ (t5 + 3) / 5 := zla_le
    subst hy
    by_cases e : zla X x ((t5 + 3) / 5) = m
    · have eb : (((zla X x ((t5 + 3) / 5) : Nat) : Int) == (m : Int)) = true := by rw [e]; simp
      show zG X c wr _ (if (((zla X x ((t5 + 3) / 5) : Nat) : Int) == (m : Int)) = true then _ else _) t5 n5
      rw [if_pos eb]
      have s1 : zla X x ((t2 + 3) / 5) ≤ zla X x ((ta + 3) / 5) := zla_mono (by omega)
      have s2 : zla X x ((ta + 3) / 5) ≤ zla X x ((t5 + 3) / 5) := zla_mono (by omega)
      have s3 : zla X x ((ta + 1) / 5) = zla X x ((ta + 3) / 5) := zla_stay (by omega) (by omega)
      have s4 : zla X x ((ta + 1) / 5) = m := by omega
      refine .inl ⟨rfl, ⟨?_, by rw [e]; omega⟩, (hc4.trans c5).le (by omega)⟩
      show (⟨rfN x, (m : Int), nodeNd x, [zwv x (zla X x ((ta + 1) / 5)), 201 + 10 * (x : Int)]⟩ : Sn) = _
      rw [e, s4]; rfl
    · have eb : ¬ (((zla X x ((t5 + 3) / 5) : Nat) : Int) == (m : Int)) = true := by
        intro q
        have : ((zla X x ((t5 + 3) / 5) : Nat) : Int) = (m : Int) := by simpa using q
        omega
      show zG X c wr _ (if (((zla X x ((t5 + 3) / 5) : Nat) : Int) == (m : Int)) = true then _ else _) t5 n5
      rw [if_neg eb]
      refine hrest t5 n5 c5 fun q1 q2 => e ?_
      have := c5.up
      rw [← hm, show t5 = t2 from by omega]
  rcases h3 with ⟨h3, rfl⟩ | ⟨h0, ⟨rfl, h3⟩ | ⟨rfl, h3⟩⟩
  · rw [if_pos (.inl rfl)]
    exact hgo (.inl h3)
  · rw [if_pos (.inr ⟨rfl, rfl⟩)]
    exact hgo (.inr h3)
  · rw [if_neg (by simp)]
    exact hrest t4 n4 ⟨zRl.refl hcc, by omega, by omega⟩ fun q1 q2 => by omega
theorem zG_still {a b t0 : Nat} (h0 : t0 ≤ t) (ha : zla X 0 ((t0 + 3) / 5) = a) (ha2 : 5 * a ≤ t0) (hb : ∀ q, t0 = q → t = q → zla X 1 ((q + 3) / 5) = b) (hb1 : b ≤ zla X 1 ((t + 3) / 5)) (hb2 : 5 * b ≤ t) (hn : 2 ≤ n) (hn2 : n ≤ 100) : zG X c wr (fun r t' n' => (r = true ∧ (∃ k, k ≤ c ∧ zla X 0 k = a ∧ zla X 1 k = b) ∨ r = false ∧ t0 < 5 * c) ∧ zC c wr t n 2 t' n') (tStill [zSn 0 a, zSn 1 b]) t n := by
  refine zG_bind _ (zG_info (x := 0) (by omega) (by omega) hn2) fun y t1 n1 ⟨h1, c1⟩ => ?_
  have := c1.2.1
  have := c1.2.2
  have l1 := c1.up
  have k1 := c1.top
  subst h1
  by_cases e : zla X 0 ((t1 + 3) / 5) = a
  · rw [if_pos (by show ((zla X 0 ((t1 + 3) / 5) : Nat) : Int) = (a : Int); omega)]
    refine zG_bind _ (zG_info (x := 1) (by omega) (by omega) (by omega)) fun y t2 n2 ⟨h2, c2⟩ => ?_
    have := c2.2.1
    have := c2.2.2
    have l2 := c2.up
    have k2 := c2.top
    subst h2
    by_cases e2 : zla X 1 ((t2 + 3) / 5) = b
    · rw [if_pos (by show ((zla X 1 ((t2 + 3) / 5) : Nat) : Int) = (b : Int); omega)]
      have s1 : zla X 1 ((t + 3) / 5) ≤ zla X 1 ((t1 + 3) / 5) := zla_mono (by omega)
      have s2 : zla X 1 ((t1 + 3) / 5) ≤ zla X 1 ((t2 + 3) / 5) := zla_mono (by omega)
      have s3 : zla X 0 ((t1 + 1) / 5) = zla X 0 ((t1 + 3) / 5) := zla_stay (by omega) (by omega)
      have s4 : zla X 1 ((t1 + 1) / 5) = zla X 1 ((t1 + 3) / 5) := zla_stay (by omega) (by omega)
      exact ⟨.inl ⟨rfl, (t1 + 1) / 5, by omega, by omega, by omega⟩, c1.trans c2⟩
    · rw [if_neg (by show ¬ ((zla X 1 ((t2 + 3) / 5) : Nat) : Int) = (b : Int); omega)]
      refine ⟨.inr ⟨rfl, ?_⟩, c1.trans c2⟩
      by_cases q : t0 < 5 * c
      · exact q
      · exact (e2 (hb t2 (by omega) (by omega))).elim
  · rw [if_neg (by show ¬ ((zla X 0 ((t1 + 3) / 5) : Nat) : Int) = (a : Int); omega)]
    refine ⟨.inr ⟨rfl, ?_⟩, c1.le (by omega)⟩
    by_cases q : t0 < 5 * c
    · exact q
    · exact (e (by rw [show t1 = t0 from by omega]; exact ha)).elim
/-- What the reader may answer. -/
def zAns (X : Nat → Nat) (c : Nat) (v : List Int) : Prop := v = [] ∧ 0 < c ∨ ∃ k, k ≤ c ∧ v = [zwv 0 (zla X 0 k), zwv 1 (zla X 1 k)]
theorem zG_rd (hX : ∀ j, X j < 2) (k : Nat) : ∀ t n, (1 ≤ k ∨ 0 < c) → t ≤ 5 * c → 16 ≤ n → n ≤ 100 → zG X c false (fun v _ _ => zAns X c v) (tRd k) t n := by
  induction k with
  | zero => exact fun t n hk ht h1 h2 => .inl ⟨rfl, by omega⟩
  | succ k ih =>
    intro t n hk ht h1 h2
    refine zG_at ⟨_, _, rfl⟩ fun t' hr => ?_
    obtain ⟨m, hm1, hm2⟩ : ∃ m, (false = true ∨ t' = 5 * c → m ≤ n) ∧ (16 ≤ m ∧ m ≤ 100 ∧ (t' = 5 * c ∨ m = 60)) := by
      by_cases e : t' = 5 * c
      · exact ⟨n, fun _ => Nat.le_refl _, h1, h2, .inl e⟩
      · exact ⟨60, fun q => q.elim (fun q => by cases q) fun q => (e q).elim, by omega, by omega, .inr rfl⟩
    refine ⟨m, hm1, ?_⟩
    have htc := hr.2.1
    obtain ⟨g1, g2, g3⟩ := hm2
    clear hr hm1 h1 h2 ht
    have hfail : ∀ t2 n2, t' < 5 * c → t' ≤ t2 → t2 ≤ 5 * c → 16 ≤ n2 → n2 ≤ 100 → zG X c false (fun v _ _ => zAns X c v) (tRd k) t2 n2 := fun t2 n2 e1 e2 e3 e4 e5 => ih t2 n2 (.inr (by omega)) e3 e4 e5
    show zG X c false _ (((tLoad (rfN 0) (nodeNd 0)).bind fun y => if y.2 = 0 then ((tLoad (rfN 1) (nodeNd 1)).bind fun y2 => if y2.2 = 0 then .ret ([y.1, y2.1], true) else .ret ([], false)) else .ret ([], false)).bind fun y => if y.2 = true then (tStill y.1).bind fun b => if b = true then .ret [fstW y.1 0, fstW y.1 1] else tRd k else tRd k) t' m
    rw [Tr.bind_bind]
    refine zG_bind _ (zG_load hX (x := 0) (by omega) htc (by omega) (by omega)) fun y t1 n1 h1 => ?_
    rcases h1 with ⟨y2, ⟨y3, y4⟩, c1⟩ | ⟨y2, y3, c1⟩
    case inr =>
      rw [if_neg (by omega)]
      show zG X c false _ (tRd k) t1 n1
      have := c1.up; have := c1.top; have := c1.2.1
      exact hfail t1 n1 (by omega) (by omega) (by omega) (by omega) c1.2.2
    rw [if_pos y2, Tr.bind_bind]
    have q1 := c1.2.1
    have q2 := c1.2.2
    have q3 := c1.up
    have q4 := c1.top
    refine zG_bind _ (zG_load hX (x := 1) (by omega) c1.top (by omega) (by omega)) fun z t2 n2 h2 => ?_
    rcases h2 with ⟨z2, ⟨z3, z4⟩, c2⟩ | ⟨z2, z3, c2⟩
    case inr =>
      rw [if_neg (by omega)]
      show zG X c false _ (tRd k) t2 n2
      have := c2.up; have := c2.top; have := c2.2.1
      exact hfail t2 n2 (by omega) (by omega) (by omega) (by omega) c2.2.2
    rw [if_pos z2]
    have q5 := c2.2.1
    have q6 := c2.2.2
    have q7 := c2.up
    have q8 := c2.top
    show zG X c false _ ((tStill [y.1, z.1]).bind fun b => if b = true then .ret [y.1.ws.getD 0 0, z.1.ws.getD 0 0] else tRd k) t2 n2
    rw [y3, z3]
    refine zG_bind _ (zG_still (t0 := t1) (by omega) rfl y4 (fun q e1 e2 => by rw [e2]) (Nat.le_refl _) z4 (by omega) (by omega)) fun b t3 n3 ⟨h3, c3⟩ => ?_
    have q9 := c3.2.1
    have := c3.2.2
    have := c3.up
    have := c3.top
    rcases h3 with ⟨rfl, kk, e1, e2, e3⟩ | ⟨rfl, h3⟩
    · rw [if_pos rfl]
      refine .inr ⟨kk, e1, ?_⟩
      rw [e2, e3]; rfl
    · rw [if_neg (by decide)]
      exact hfail t3 n3 (by omega) (by omega) (by omega) (by omega) (by omega)
theorem zG_wr (hX : ∀ j, X j < 2) (hc : c < 40) (k : Nat) : ∀ i n, i + k = c → 13 * k + 20 ≤ n → n ≤ 100 → zG X c true (fun v t _ => v = [1] ∧ t = 5 * c) (tWr X i k) (5 * i) n := by
  induction k with
  | zero => exact fun i n hi h1 h2 => ⟨rfl, by omega⟩
  | succ k ih =>
    intro i n hi h1 h2
    show zG X c true _ (((tLoad (rfN (X i)) (nodeNd (X i))).bind fun y => if y.2 = 0 then .ret ([y.1], true) else .ret ([], false)).bind fun y => if y.2 = true then (tStore 40 y.1 1 0 (zwv (X i) (zla X (X i) i)) (300 + (i : Int))).bind fun z => if z.1 = true then tWr X (i + 1) k else .ret [] else .ret []) (5 * i) n
    rw [Tr.bind_bind]
    refine zG_bind _ (zG_load hX (hX i) (by omega) (.inl (by omega)) (by omega)) fun y t1 n1 hy => ?_
    rcases hy with ⟨y2, ⟨y3, y4⟩, c1⟩ | ⟨y2, y3, c1⟩
    case inr =>
      have e1 := c1.1.2.2 rfl
      have e2 := c1.up
      exact (y3 ⟨by omega, by omega⟩).elim
    have e1 := c1.1.2.2 rfl
    have e2 := c1.up
    obtain rfl : t1 = 5 * i := by omega
    have q1 := c1.2.1
    have q2 := c1.2.2
    rw [if_pos y2]
    show zG X c true _ ((tStore 40 [y.1] 1 0 (zwv (X i) (zla X (X i) i)) (300 + (i : Int))).bind fun z => if z.1 = true then tWr X (i + 1) k else .ret []) (5 * i) n1
    have er : rcSn [y.1] 1 0 (zwv (X i) (zla X (X i) i)) (300 + (i : Int)) = zrc X i := by
      rw [y3, show (5 * i + 3) / 5 = i from by omega]
      rfl
    show zG X c true _ (.tch (gRMake 40 (rcSn [y.1] 1 0 (zwv (X i) (zla X (X i) i)) (300 + (i : Int)))) fun n => (if n = 0 then .ret (false, true) else (tHelpL n).bind fun b => .ret (b, false)).bind fun z => if z.1 = true then tWr X (i + 1) k else .ret []) (5 * i) n1
    rw [er]
    refine zG_step (by omega) (by omega) fun t2 h2 => ?_
    have e3 := h2.2.2 rfl
    have e4 := h2.1
    obtain rfl : t2 = 5 * i := by omega
    refine ⟨_, _, z_make (by omega), ⟨by omega, .inr ⟨rfl, fun q => by cases q⟩⟩, ?_⟩
    rw [if_neg (by omega), Tr.bind_bind]
    refine zG_bind _ (zG_help (hX i) (by omega) (by omega) (by omega) (by omega)) fun b t3 n3 ⟨⟨h3, h4⟩, c3⟩ => ?_
    subst h3
    have e5 := c3.1.2.2 rfl
    obtain rfl : t3 = 5 * (i + 1) := by omega
    have q3 := c3.2.1
    have q4 := c3.2.2
    show zG X c true _ (tWr X (i + 1) k) (5 * (i + 1)) n3
    exact ih (i + 1) n3 (by omega) (by omega) (by omega)
end
end Go.Proofs.Ytoeilogakfggfaa
