/-
  A law's threads side by side in memory, whatever their work; what starts one, what a Step and Out come to.
-/
import Derived.Test.YtcegianjpifnbaaGreatLy10
namespace Go.Proofs.YtcegianjpifnbaaGreat
open Go.ChangeShapes Go.WideShapes Go.ChangeAt Go.RowKit
set_option linter.unusedVariables false
set_option linter.unusedSimpArgs false
set_option maxRecDepth 20000

/-- A law's thread: where it lies, its number, the work that it was started with, as a tree; what must hold as it goes on. -/
structure Hp where
  a : Nat
  me : Nat
  f : Nat
  cap : Array Value
  t : Tr (List Int)
  P : Sig → Prop
/-- What is left of its work, or what it answered. -/
inductive Ts where
  | run (u : Tr (List Int))
  | fin (b : List Int)
def Ts.done : Ts → Bool
  | .run _ => false
  | .fin _ => true
def ofTr : Tr (List Int) → Ts
  | .ret v => .fin v
  | u => .run u
/-- A Step. -/
def nxT : Ts → Sig → Ts × Sig
  | .run (.ret v), s => (.fin v, s)
  | .run (.tch g K), s => (ofTr (nrm (K (g s).1) (g s).2), (g s).2)
  | .run (.lk n K), s => (.run (.lk n K), s)
  | .fin b, s => (.fin b, s)
/-- What this Step leads to is there; records that there were are as they were. -/
def stO : Ts → Sig → Prop
  | .run (.tch g K), s => Le s (g s).2 ∧ hd (K (g s).1) (g s).2
  | _, _ => True
theorem Le.rs {s s' : Sig} (h : s'.rs = s.rs) : Le s s' := fun n e => ⟨by unfold has at e ⊢; rw [h]; exact e, by rw [h]⟩
/-- A Step's records, all along, of work that goes on alone. -/
def okT {α : Type} : Tr α → Sig → Prop
  | .ret _, _ => True
  | .tch g K, s => (Le s (g s).2 ∧ hd (K (g s).1) (g s).2) ∧ okT (K (g s).1) (g s).2
  | .lk n K, s => okT (K (rcOf s.rs n)) s
theorem okT_nrm {α : Type} {t : Tr α} {s : Sig} (h : okT t s) : okT (nrm t s) s := by
  induction t with
  | ret v => exact h
  | tch g K ih => exact h
  | lk n K ih => exact ih _ h
/-- The tree's Step is this one. -/
theorem stp_nxT {u : Tr (List Int)} {s : Sig} (hn : nl u) : (∃ v s', stp u s = .done v s' ∧ nxT (.run u) s = (.fin v, s') ∧ (u = .ret v ∧ s' = s ∨ ∃ g K, u = .tch g K ∧ s' = (g s).2)) ∨ (∃ g K, u = .tch g K ∧ stp u s = .more (g s).1 (g s).2 ∧ nxT (.run u) s = (.run (nrm (K (g s).1) (g s).2), (g s).2)) := by
  cases u with
  | ret v => exact .inl ⟨v, s, rfl, rfl, .inl ⟨rfl, rfl⟩⟩
  | lk n K => exact hn.elim
  | tch g K =>
    have hn2 := nl_nrm (K (g s).1) (g s).2
    cases hK : nrm (K (g s).1) (g s).2 with
    | ret v => exact .inl ⟨v, (g s).2, by simp only [stp, hK], by simp only [nxT, hK, ofTr], .inr ⟨g, K, rfl, rfl⟩⟩
    | tch g' K' => exact .inr ⟨g, K, rfl, by simp only [stp, hK], by simp only [nxT, hK, ofTr]⟩
    | lk n K' => rw [hK] at hn2; exact hn2.elim
/-- A Step, and what comes of it alone. -/
theorem nxT_ev {u : Tr (List Int)} {s : Sig} (hn : nl u) : (∃ v s', nxT (.run u) s = (.fin v, s') ∧ (ev u s).1 = v ∧ (ev u s).2.1 = s' ∧ (ev u s).2.2 ≤ 1) ∨ (∃ u' s', nxT (.run u) s = (.run u', s') ∧ nl u' ∧ (ev u s).1 = (ev u' s').1 ∧ (ev u s).2.1 = (ev u' s').2.1 ∧ (ev u s).2.2 = (ev u' s').2.2 + 1 ∧ 1 ≤ (ev u' s').2.2) := by
  cases u with
  | ret v => exact .inl ⟨v, s, rfl, rfl, rfl, Nat.zero_le _⟩
  | lk n K => exact hn.elim
  | tch g K =>
    have hn2 := nl_nrm (K (g s).1) (g s).2
    have he := ev_nrm (K (g s).1) (g s).2
    cases hK : nrm (K (g s).1) (g s).2 with
    | ret v => rw [hK] at he; exact .inl ⟨v, (g s).2, by simp only [nxT, hK, ofTr], by simp only [ev, he], by simp only [ev, he], by simp only [ev, he]; omega⟩
    | tch g' K' => rw [hK] at he; exact .inr ⟨.tch g' K', (g s).2, by simp only [nxT, hK, ofTr], trivial, by simp only [ev, he], by simp only [ev, he], by simp only [ev, he], by simp only [ev]; omega⟩
    | lk n K' => rw [hK] at hn2; exact hn2.elim
theorem nxT_all {P : Sig → Prop} {u u' : Tr (List Int)} {s s' : Sig} (h : all P u s) (ho : okT u s) (e : nxT (.run u) s = (.run u', s')) (hn : nl u) : all P u' s' ∧ okT u' s' := by
  cases u with
  | ret v => cases e
  | lk n K => exact hn.elim
  | tch g K =>
    simp only [nxT] at e
    have h2 := all_nrm h.2
    have h3 := okT_nrm ho.2
    cases hK : nrm (K (g s).1) (g s).2 with
    | ret v => rw [hK] at e; cases e
    | tch g' K' =>
      rw [hK] at e h2 h3
      injection e with e1 e2
      injection e1 with e1
      rw [← e1, ← e2]; exact ⟨h2, h3⟩
    | lk n K' =>
      have hn2 := nl_nrm (K (g s).1) (g s).2
      rw [hK] at hn2; exact hn2.elim

def idO (l : List Int) : List Int := l
/-- A thread in memory. -/
def HS (d : Wd) (R : Nat → Prop) (T : Nat) (w : World) (x : Hp) (P : Nat → Prop) (s : Sig) : Ts → Prop
  | .run u => (∀ (a : Nat) (W : World), (callFunc x.f (#[tkV a d.W x.me] ++ x.cap)).run Tryz.prog W = .ok (.enter x.f (#[tkV a d.W x.me] ++ x.cap)) W) ∧ Job d R w x.f x.me x.cap x.P x.t idO ∧ ∃ B1 B2 B3 zs F V k, Th F w x.a (wkV B1 B2 B3) zs zs.length (.slice none 0 0) [] 0 k V ∧ Bx w d.W x.me x.f x.cap B1 B2 B3 ∧ (∀ b, F b → P b) ∧ P B1 ∧ P B2 ∧ P B3 ∧ (¬ F B1 ∧ ¬ F B2 ∧ ¬ F B3) ∧ path x.t zs s ∧ res x.t zs s = u ∧ (∀ z ∈ zs, in64 z) ∧ zs.length ≤ T
  | .fin b => ∃ F st k O, Th F w x.a .nilFunc [] st O b 0 k (.slice none 0 0) ∧ ∀ b, F b → P b
theorem Bx.keep {w w' : World} {W me g B1 B2 B3 : Nat} {capw : Array Value} (h : Bx w W me g capw B1 B2 B3) (h1 : w'.heap[B1]? = w.heap[B1]?) (h2 : w'.heap[B2]? = w.heap[B2]?) (h3 : w'.heap[B3]? = w.heap[B3]?) : Bx w' W me g capw B1 B2 B3 :=
  ⟨cell_same h1 h.c1, cell_same h2 h.c2, cell_same h3 h.c3⟩
theorem Job.kept {α : Type} {d : Wd} {R R' : Nat → Prop} {w w' : World} {F me : Nat} {cap : Array Value} {P : Sig → Prop} {t : Tr α} {out : α → List Int} (h : Job d R w F me cap P t out) (hs : ∀ b, R b → R' b) (hb : ∀ b, R b → w'.heap[b]? = w.heap[b]?) : Job d R' w' F me cap P t out :=
  fun a wk R1 w1 h1 h2 => h a wk R1 w1 (fun b e => h1 b (hs b e)) fun b e => (h2 b (hs b e)).trans (hb b e)
theorem HS.keep {d : Wd} {R R' : Nat → Prop} {T T' : Nat} {w w' : World} {x : Hp} {P : Nat → Prop} {s s' : Sig} {o : Ts} (h : HS d R T w x P s o) (hb : ∀ b, P b → w'.heap[b]? = w.heap[b]?) (hR : ∀ b, R b → R' b) (hRb : ∀ b, R b → w'.heap[b]? = w.heap[b]?) (hs : w.heap.size ≤ w'.heap.size) (hT : T ≤ T') (hl : Le s s') : HS d R' T' w' x P s' o := by
  cases o with
  | run u =>
    obtain ⟨hen, hj, B1, B2, B3, zs, F, V, k, h1, h2, h4, h5, h6, h7, h9, q1, q2, q3, q4⟩ := h
    obtain ⟨r1, r2⟩ := path_le q1 hl
    exact ⟨hen, hj.kept hR hRb, B1, B2, B3, zs, F, V, k, h1.keep (fun b e => hb b (h4 b e)) hs, h2.keep (hb _ h5) (hb _ h6) (hb _ h7), h4, h5, h6, h7, h9, r1, r2.trans q2, q3, by omega⟩
  | fin b =>
    obtain ⟨F, st, k, O, h1, h2⟩ := h
    exact ⟨F, st, k, O, h1.keep (fun b e => hb b (h2 b e)) hs, h2⟩
/-- n threads, the world, and a law's blocks R. -/
structure MS (d : Wd) (R : Nat → Prop) (n T : Nat) (hs : Nat → Hp) (os : Nat → Ts) (s : Sig) (FW : Nat → Prop) (P : Nat → Nat → Prop) (w : World) : Prop where
  ws : WS d FW w s
  rs : ∀ b, R b → b < w.heap.size ∧ ¬ FW b
  own : ∀ i, i < n → ∀ b, P i b → b < w.heap.size ∧ ¬ FW b ∧ ¬ R b
  sep : ∀ i j b, i < n → j < n → i ≠ j → P i b → ¬ P j b
  th : ∀ i, i < n → HS d R T w (hs i) (P i) s (os i)
def ME (d : Wd) (R : Nat → Prop) (n T : Nat) (hs : Nat → Hp) (os : Nat → Ts) (s : Sig) (w : World) : Prop := ∃ FW P, MS d R n T hs os s FW P w
/-- What stays as thread i goes on. -/
def Rf (n : Nat) (R : Nat → Prop) (P : Nat → Nat → Prop) (i b : Nat) : Prop := R b ∨ ∃ j, j < n ∧ j ≠ i ∧ P j b
section
variable {d : Wd} {R R' FW : Nat → Prop} {n T i : Nat} {hs : Nat → Hp} {os : Nat → Ts} {s s' : Sig} {P : Nat → Nat → Prop} {w w' : World} {L : Nat}
/-- Thread i is elsewhere. -/
def upd {α : Type} (f : Nat → α) (i : Nat) (x : α) : Nat → α := fun k => if k = i then x else f k
theorem upd_at {α : Type} (f : Nat → α) (i : Nat) (x : α) : upd f i x i = x := if_pos rfl
theorem upd_ne {α : Type} (f : Nat → α) {i k : Nat} (x : α) (h : k ≠ i) : upd f i x k = f k := if_neg h
theorem upd_same {α : Type} (f : Nat → α) (i : Nat) : upd f i (f i) = f := by funext k; unfold upd; split; (rename_i h; rw [h]); rfl
theorem upd_upd {α : Type} (f : Nat → α) (i : Nat) (x y : α) : upd (upd f i x) i y = upd f i y := by funext k; unfold upd; split <;> rfl
theorem MS.rf (h : MS d R n T hs os s FW P w) : ∀ b, Rf n R P i b → b < w.heap.size ∧ ¬ FW b := by
  rintro b (e | ⟨j, hj, -, e⟩)
  · exact h.rs b e
  · exact ⟨(h.own j hj b e).1, (h.own j hj b e).2.1⟩
theorem MS.other {T' : Nat} {FW' Q : Nat → Prop} {o : Ts} (h : MS d R n T hs os s FW P w) (hi : i < n) (hT : T ≤ T') (hl : Le s s') (hK : Kp (Rf n R P i) w w') (hws : WS d FW' w' s') (hFW : ∀ b, Rf n R P i b → ¬ FW' b)
    (hQ : ∀ b, Q b → b < w'.heap.size ∧ ¬ FW' b ∧ ¬ Rf n R P i b) (hth : HS d R T' w' (hs i) Q s' o) : ME d R n T' hs (upd os i o) s' w' := by
  refine ⟨FW', upd P i Q, hws, ?_, ?_, ?_, ?_⟩
  · exact fun b e => ⟨Nat.lt_of_lt_of_le (h.rs b e).1 hK.size, hFW b (.inl e)⟩
  · intro j hj b hb
    by_cases e : j = i
    · subst e
      rw [upd_at] at hb
      obtain ⟨q1, q2, q3⟩ := hQ b hb
      exact ⟨q1, q2, fun e => q3 (.inl e)⟩
    · rw [upd_ne _ _ e] at hb
      have := h.own j hj b hb
      exact ⟨Nat.lt_of_lt_of_le this.1 hK.size, hFW b (.inr ⟨j, hj, e, hb⟩), this.2.2⟩
  · intro j k b hj hk hne hb hb2
    by_cases e : j = i
    · subst e
      rw [upd_at] at hb
      rw [upd_ne _ _ (fun e => hne e.symm)] at hb2
      exact (hQ b hb).2.2 (.inr ⟨k, hk, fun e => hne e.symm, hb2⟩)
    · rw [upd_ne _ _ e] at hb
      by_cases e2 : k = i
      · subst e2
        rw [upd_at] at hb2
        exact (hQ b hb2).2.2 (.inr ⟨j, hj, e, hb⟩)
      · rw [upd_ne _ _ e2] at hb2
        exact h.sep j k b hj hk hne hb hb2
  · intro j hj
    by_cases e : j = i
    · subst e
      rw [upd_at, upd_at]
      exact hth
    · rw [upd_ne _ _ e, upd_ne _ _ e]
      exact (h.th j hj).keep (fun b hb => hK.block b (.inr ⟨j, hj, e, hb⟩)) (fun b e => e) (fun b e => hK.block b (.inl e)) hK.size hT hl
/-- The law's own operation on the world. -/
theorem MS.nx (h : MS d R n T hs os s FW P w) (hn : NxW d FW w s' w') (hl : n = 0 ∨ Le s s') : ME d R n T hs os s' w' ∧ Kp R w w' := by
  obtain ⟨FW', k1, k2, k3⟩ := hn
  refine ⟨⟨FW', P, k1, fun b e => ⟨Nat.lt_of_lt_of_le (h.rs b e).1 k2.size, fun f => ?_⟩, fun i hi b e => ?_, h.sep, fun i hi => (h.th i hi).keep (fun b e => k2.block b (h.own i hi b e).1 (h.own i hi b e).2.1) (fun b e => e) (fun b e => k2.block b (h.rs b e).1 (h.rs b e).2) k2.size (Nat.le_refl _) (hl.elim (fun e => by omega) id)⟩, Kp.only k2 h.rs⟩
  · rcases k3 b f with f | f
    · exact (h.rs b e).2 f
    · have := (h.rs b e).1; omega
  · have := h.own i hi b e
    refine ⟨Nat.lt_of_lt_of_le this.1 k2.size, fun f => ?_, this.2.2⟩
    rcases k3 b f with f | f
    · exact this.2.1 f
    · omega
theorem ME.more (h : ME d R n T hs os s w) (hb : Below w.heap.size w w') (hR : ∀ b, R' b → R b ∨ (w.heap.size ≤ b ∧ b < w'.heap.size)) (hm : n = 0 ∨ ∀ b, R b → R' b) : ME d R' n T hs os s w' := by
  obtain ⟨FW, P, h⟩ := h
  refine ⟨FW, P, h.ws.below hb, fun b e => ?_, fun i hi b e => ?_, h.sep, fun i hi => (h.th i hi).keep (fun b e => hb.block b (h.own i hi b e).1) (hm.elim (fun e => by omega) id) (fun b e => hb.block b (h.rs b e).1) hb.size (Nat.le_refl _) (Le.refl _)⟩
  · rcases hR b e with e | e
    · exact ⟨Nat.lt_of_lt_of_le (h.rs b e).1 hb.size, (h.rs b e).2⟩
    · exact ⟨e.2, fun f => by have := h.ws.lt b f; omega⟩
  · have := h.own i hi b e
    refine ⟨Nat.lt_of_lt_of_le this.1 hb.size, this.2.1, fun f => ?_⟩
    rcases hR b f with f | f
    · exact this.2.2 f
    · omega
theorem ME.below (h : ME d R n T hs os s w) (hb : Below w.heap.size w w') : ME d R n T hs os s w' := h.more hb (fun b e => .inl e) (.inr fun b e => e)
/-- The first: no thread yet. -/
theorem ME.none_ (h : Idle d R w s) : ME d R 0 0 hs os s w := by
  obtain ⟨FW, h1, h2⟩ := h
  exact ⟨FW, fun _ _ => False, h1, h2, fun i hi => absurd hi (by omega), fun i j b hi => absurd hi (by omega), fun i hi => absurd hi (by omega)⟩
theorem ME.later {T' : Nat} (h : ME d R n T hs os s w) (hT : T ≤ T') : ME d R n T' hs os s w := by
  obtain ⟨FW, P, h⟩ := h
  exact ⟨FW, P, h.ws, h.rs, h.own, h.sep, fun i hi => (h.th i hi).keep (fun _ _ => rfl) (fun b e => e) (fun _ _ => rfl) (Nat.le_refl _) hT (Le.refl _)⟩
theorem ME.ws (h : ME d R n T hs os s w) : ∃ FW, WS d FW w s := by obtain ⟨FW, P, h⟩ := h; exact ⟨FW, h.ws⟩
theorem ME.lt (h : ME d R n T hs os s w) : ∀ b, R b → b < w.heap.size := by obtain ⟨FW, P, h⟩ := h; exact fun b e => (h.rs b e).1
/-- Threads are forgotten. -/
theorem ME.reset (h : ME d R n T hs os s w) {hs' : Nat → Hp} {os' : Nat → Ts} : ME d R 0 0 hs' os' s w := by
  obtain ⟨FW, P, h⟩ := h
  exact ⟨FW, P, h.ws, h.rs, fun i hi => absurd hi (by omega), fun i j b hi => absurd hi (by omega), fun i hi => absurd hi (by omega)⟩
/-- A thread is started. -/
theorem ME.start {me f : Nat} {cap : Array Value} {t : Tr (List Int)} {Pr : Sig → Prop} (h : ME d R n T hs os s w) (hj : Job d R w f me cap Pr t idO) (hen : ∀ (a : Nat) (W : World), (callFunc f (#[tkV a d.W me] ++ cap)).run Tryz.prog W = .ok (.enter f (#[tkV a d.W me] ++ cap)) W) (hh : hd t s) :
    Calls Tryz.prog 26 #[ptr d.W, .int .i64 (me : Int), .func (.func f) #[] cap] w fun e w' => ∃ a, e = .returned (ptr a) ∧ ME d R (n + 1) T (upd hs n ⟨a, me, f, cap, t, Pr⟩) (upd os n (.run (nrm t s))) s w' ∧ Below w.heap.size w w' := by
  obtain ⟨FW, P, hM⟩ := h
  have hid : Idle d (Rf n R P n) w s := ⟨FW, hM.ws, fun q e => hM.rf q e⟩
  refine (start_walk (me := me) (g := f) (capw := cap) hid).mono ?_
  rintro e w' ⟨a, B1, B2, B3, rfl, hx, ⟨⟨k, F, FW', V, k1, k2, k3, k4⟩, -⟩, hbw, l1, l2, l3, l4, l5⟩
  have hK : Kp (Rf n R P n) w w' := Kp.below hbw fun q e => (hM.rf q e).1
  refine ⟨a, rfl, ⟨FW', upd P n (fun q => F q ∨ q = B1 ∨ q = B2 ∨ q = B3), k2, ?_, ?_, ?_, ?_⟩, hbw⟩
  · intro q e
    exact ⟨(k4 q (.inl (.inl e))).1, (k4 q (.inl (.inl e))).2.2⟩
  · intro j hj q hq
    by_cases e : j = n
    · subst e
      rw [upd_at] at hq
      have notR : ∀ q, w.heap.size ≤ q → ¬ R q := fun q e f => by have := (hM.rs q f).1; omega
      rcases hq with e | e | e | e
      · exact ⟨k1.lt q e, k3 q e, fun f => (k4 q (.inl (.inl f))).2.1 e⟩
      · subst e; exact ⟨(k4 q (.inr (.inl rfl))).1, (k4 q (.inr (.inl rfl))).2.2, notR q l1⟩
      · subst e; exact ⟨(k4 q (.inr (.inr (.inl rfl)))).1, (k4 q (.inr (.inr (.inl rfl)))).2.2, notR q l2⟩
      · subst e; exact ⟨(k4 q (.inr (.inr (.inr rfl)))).1, (k4 q (.inr (.inr (.inr rfl)))).2.2, notR q l3⟩
    · rw [upd_ne _ _ e] at hq
      have := hM.own j (by omega) q hq
      exact ⟨Nat.lt_of_lt_of_le this.1 hbw.size, (k4 q (.inl (.inr ⟨j, by omega, e, hq⟩))).2.2, this.2.2⟩
  · have key : ∀ j, j < n → ∀ q, P j q → ¬ (F q ∨ q = B1 ∨ q = B2 ∨ q = B3) := fun j hj q h1 h2 => by
      have hl := (hM.own j hj q h1).1
      rcases h2 with e | e | e | e
      · exact (k4 q (.inl (.inr ⟨j, hj, by omega, h1⟩))).2.1 e
      · omega
      · omega
      · omega
    intro i j q hi hj hne h1 h2
    by_cases e1 : i = n
    · subst e1
      rw [upd_at] at h1
      rw [upd_ne _ _ (fun e => hne e.symm)] at h2
      exact key j (by omega) q h2 h1
    · rw [upd_ne _ _ e1] at h1
      by_cases e2 : j = n
      · subst e2
        rw [upd_at] at h2
        exact key i (by omega) q h1 h2
      · rw [upd_ne _ _ e2] at h2
        exact hM.sep i j q (by omega) (by omega) hne h1 h2
  · intro j hj2
    by_cases e : j = n
    · subst e
      rw [upd_at, upd_at, upd_at]
      exact ⟨hen, hj.kept (fun b e => e) (fun b e => hK.block b (.inl e)), B1, B2, B3, [], F, V, k, k1, hx, fun q e => .inl e, .inr (.inl rfl), .inr (.inr (.inl rfl)), .inr (.inr (.inr rfl)), ⟨fun e => (k4 B1 (.inr (.inl rfl))).2.1 e, fun e => (k4 B2 (.inr (.inr (.inl rfl)))).2.1 e, fun e => (k4 B3 (.inr (.inr (.inr rfl)))).2.1 e⟩, by cases t <;> exact hh, by cases t <;> rfl, fun z hz => (by cases hz), Nat.zero_le _⟩
    · rw [upd_ne _ _ e, upd_ne _ _ e, upd_ne _ _ e]
      exact (hM.th j (by omega)).keep (fun q hq => hK.block q (.inr ⟨j, by omega, e, hq⟩)) (fun b e => e) (fun b e => hK.block b (.inl e)) hK.size (Nat.le_refl _) (Le.refl _)
/-- A Step of thread i. -/
theorem ME.step (h : ME d R n T hs os s w) (hi : i < n) (hP0 : (os i).done = false → (hs i).P s ∧ Fit s) (hO : stO (os i) s) (hT : T ≤ 440) :
    Calls Tryz.prog 29 #[ptr (hs i).a] w fun e w' => e = .returned (.bool (nxT (os i) s).1.done) ∧ ME d R n (T + 1) hs (upd os i (nxT (os i) s).1) (nxT (os i) s).2 w' ∧ Kp R w w' := by
  obtain ⟨FW, P, h⟩ := h
  have ht := h.th i hi
  cases ho : os i with
  | fin b =>
    rw [ho] at ht
    obtain ⟨F, st, k, O, h1, h2⟩ := ht
    refine (step_done h1).mono ?_
    rintro e w' ⟨rfl, rfl⟩
    refine ⟨rfl, ⟨FW, P, h.ws, h.rs, h.own, h.sep, fun j hj => ?_⟩, Kp.refl _ _⟩
    have : upd os i (nxT (.fin b) s).1 = os := by rw [show (nxT (.fin b) s).1 = os i from ho.symm]; exact upd_same os i
    rw [this]
    exact (h.th j hj).keep (fun _ _ => rfl) (fun b e => e) (fun _ _ => rfl) (Nat.le_refl _) (by omega) (Le.refl _)
  | run u =>
    rw [ho] at ht hO
    obtain ⟨hen, hj, B1, B2, B3, zs, F, V, k, k1, hx, k3, k4, k5, k6, ⟨n1, n2, n3⟩, k7, k8, k9, k10⟩ := ht
    obtain ⟨hP, hF⟩ := hP0 (by rw [ho]; rfl)
    have hRest : Rest d (fun b => Rf n R P i b ∨ b = B1 ∨ b = B2 ∨ b = B3) w (hs i).a (wkV B1 B2 B3) zs zs.length s := by
      refine ⟨⟨k, F, FW, V, k1, h.ws, fun b e => (h.own i hi b (k3 b e)).2.1, ?_⟩, k9⟩
      have box : ∀ B, P i B → ¬ F B → B < w.heap.size ∧ ¬ F B ∧ ¬ FW B := fun B e n => ⟨(h.own i hi B e).1, n, (h.own i hi B e).2.1⟩
      rintro b (e | e | e | e)
      · refine ⟨(h.rf b e).1, fun f => ?_, (h.rf b e).2⟩
        have := h.own i hi b (k3 b f)
        rcases e with e | ⟨j, hj, hne, e⟩
        · exact this.2.2 e
        · exact h.sep j i b hj hi hne e (k3 b f)
      · rw [e]; exact box B1 k4 n1
      · rw [e]; exact box B2 k5 n2
      · rw [e]; exact box B3 k6 n3
    have hW := start_works (d := d) (me := (hs i).me) (g := (hs i).f) (capw := (hs i).cap) (P := (hs i).P) (t := (hs i).t) (out := idO) (R := fun b => Rf n R P i b ∨ b = B1 ∨ b = B2 ∨ b = B3) (w := w) (a := (hs i).a) rfl (hen _) hx (.inr (.inl rfl)) (.inr (.inr (.inl rfl))) (.inr (.inr (.inr rfl))) (hj (hs i).a (wkV B1 B2 B3) _ w (fun b e => .inl (.inl e)) (fun b e => rfl))
    have hst := step_tree (cap := #[ptr B3, ptr B1, ptr B2]) rfl (fun W => rfl) hW hRest k7 hF hP (by omega)
    refine hst.mono ?_
    intro e w' hPo
    rw [k8] at hPo
    have hnl : nl u := by rw [← k8]; exact nl_res _ _ _
    have own : ∀ B, P i B → ¬ Rf n R P i B := fun B hB r => by
      have := h.own i hi B hB
      rcases r with r | ⟨j, hj, hne, r⟩
      · exact this.2.2 r
      · exact h.sep j i B hj hi hne r hB
    rcases stp_nxT (s := s) hnl with ⟨v, s1, e4, e1, e5⟩ | ⟨g, K, e2, e4, e1⟩
    · rw [e4] at hPo
      obtain ⟨hK, he, ⟨F', FW', st', k', O', r1, r2, r3, r4⟩⟩ := hPo
      rw [e1]
      have hl : Le s s1 := by
        rcases e5 with ⟨-, e5⟩ | ⟨g, K, e5, e6⟩
        · rw [e5]; exact Le.refl _
        · rw [e5] at hO; rw [e6]; exact hO.1
      refine ⟨he, h.other hi (by omega) hl (hK.mono fun b e => .inl e) r2 (fun b r => (r4 b (.inl r)).2.2) (Q := F') (fun b e => ⟨r1.lt b e, r3 b e, fun r => (r4 b (.inl r)).2.1 e⟩) ⟨F', st', k', O', r1, fun b e => e⟩, hK.mono fun b e => .inl (.inl e)⟩
    · rw [e4] at hPo
      obtain ⟨hK, he, ⟨⟨k', F', FW', V', r1, r2, r3, r4⟩, r5⟩⟩ := hPo
      rw [e1]
      rw [e2] at hO
      obtain ⟨q1, q2⟩ := path_snoc k7 (k8.trans e2) (g s).1 hO.1 hO.2
      refine ⟨he, h.other hi (by omega) hO.1 (hK.mono fun b e => .inl e) r2 (fun b r => (r4 b (.inl r)).2.2) (Q := fun b => F' b ∨ b = B1 ∨ b = B2 ∨ b = B3) ?_ ?_, hK.mono fun b e => .inl (.inl e)⟩
      · rintro b (e | e | e | e)
        · exact ⟨r1.lt b e, r3 b e, fun r => (r4 b (.inl r)).2.1 e⟩
        · rw [e]; exact ⟨(r4 B1 (.inr (.inl rfl))).1, (r4 B1 (.inr (.inl rfl))).2.2, own B1 k4⟩
        · rw [e]; exact ⟨(r4 B2 (.inr (.inr (.inl rfl)))).1, (r4 B2 (.inr (.inr (.inl rfl)))).2.2, own B2 k5⟩
        · rw [e]; exact ⟨(r4 B3 (.inr (.inr (.inr rfl)))).1, (r4 B3 (.inr (.inr (.inr rfl)))).2.2, own B3 k6⟩
      · refine ⟨hen, hj.kept (fun b e => e) (fun b e => hK.block b (.inl (.inl e))), B1, B2, B3, zs ++ [(g s).1], F', V', k', by rw [List.length_append]; exact r1, hx.keep (hK.block _ (.inr (.inl rfl))) (hK.block _ (.inr (.inr (.inl rfl)))) (hK.block _ (.inr (.inr (.inr rfl)))), fun b e => .inl e, .inr (.inl rfl), .inr (.inr (.inl rfl)), .inr (.inr (.inr rfl)), ⟨fun e => (r4 B1 (.inr (.inl rfl))).2.1 e, fun e => (r4 B2 (.inr (.inr (.inl rfl)))).2.1 e, fun e => (r4 B3 (.inr (.inr (.inr rfl)))).2.1 e⟩, q1, q2, r5, by rw [List.length_append, List.length_singleton]; omega⟩
/-- Out of a thread at its end. -/
theorem ME.out {b : List Int} (h : ME d R n T hs os s w) (hi : i < n) (ho : os i = .fin b) (h3 : b.length ≤ 1000) : Calls Tryz.prog 30 #[ptr (hs i).a] w fun e w' => ∃ A m q, e = .returned (.slice A m q) ∧ Row 2 w.heap.size w' (.slice A m q) b ∧ Below w.heap.size w w' := by
  obtain ⟨FW, P, h⟩ := h
  have ht := h.th i hi
  rw [ho] at ht
  obtain ⟨F, st, k, O, h1, h2⟩ := ht
  refine (out_walk h1 h3).mono ?_
  rintro e w' ⟨v, rfl, hr, hb⟩
  obtain ⟨A, m, q, rfl⟩ := hr.shape
  exact ⟨A, m, q, rfl, hr, hb⟩
end
end Go.Proofs.YtcegianjpifnbaaGreat
