/-
  Helpers side by side in memory, beside the world and a law's own blocks: what starts one, what a Step, Alone and yes come to.
-/
import Derived.Test.YtfloblofdkemlaaHs9
namespace Go.Proofs.Ytfloblofdkemlaa
open Go.ChangeShapes Go.WideShapes Go.ChangeAt Go.RowKit
set_option linter.unusedVariables false
set_option linter.unusedSimpArgs false
set_option maxRecDepth 20000

def hlpOut (b : Bool) : List Int := [b2i b]
/-- A record that may be. -/
structure GoodR (r : Rc) : Prop where
  kp : 0 ≤ r.kp
  len : r.ns.length = r.is.length
  few : r.ns.length ≤ 20
section
variable {d : Wd} {R R' : Nat → Prop} {w w' w0 : World} {a st ph k me : Nat} {wk : Value} {zs : List Int} {c : Cur} {s : Sig} {n : Int}
theorem one_num (w : World) (z : Int) : ∃ (X : World) (b : Nat), w.alloc (.cells #[.int .i64 z] 2) = X ∧ w.heap.size = b ∧ Below w.heap.size w X ∧ Sl X (some ⟨b, 0, none⟩) 1 1 [z] :=
  ⟨_, _, rfl, rfl, below_new _ _, rfl, Nat.le_refl _, fun e => (by cases e), .inr ⟨_, 0, rfl, fun i y hi => by
    cases i with
    | zero => injection hi with hi; subst hi; exact c_new rfl rfl
    | succ i => simp at hi⟩⟩
set_option maxHeartbeats 1000000 in
theorem help1_walk {Bn : Nat} {r : Rc} (h : Lv d R w a wk c s) (hc : w.cell? ⟨Bn, 0, none⟩ = some (.int .i64 n)) (hr : rcOf s.rs n = r) (hg : GoodR r) (hrs : s.rs.length ≤ 1000) :
    Calls Try.prog 49 #[tkV a d.W me, ptr Bn] w (PostW d R w a wk hlpOut (run (tHelp r n) c s)) := by
  obtain ⟨W, p, hW, hp, bb, tk, hsz⟩ := one_box w a d.W me
  obtain ⟨ns, is, kp, wy, od, nw⟩ := r
  have HD := Lib.hid (record_touch (me := me) (h.below bb) hr hg.kp hg.len hg.few hrs)
  have HK := Lib.hid (Kp.new h bb)
  obtain ⟨t0, t1, t2⟩ := tk
  have hcW := below_read bb hc
  clear h bb hsz hr hg hrs hc
  generalize run (tHelp ⟨ns, is, kp, wy, od, nw⟩ n) c s = o at HD ⊢
  go_enter Try.func49, Try.ntmps49
  go_wp2_with fail
  (try rw [hW])
  refine HD.out.mono ?_
  clear HD t0 t1 t2 hcW hW hp
  intro e w1 hP
  have hP2 := Post.from_ HK.out hP
  clear HK
  cases o with
  | wait zs st s' =>
    obtain ⟨-, rfl, -⟩ := hP
    exact ⟨rfl, hP2⟩
  | ret v c' s' =>
    obtain ⟨-, rfl, -⟩ := hP
    cases v with
    | true =>
      obtain ⟨X, b, hX, hb, bX, sX⟩ := one_num w1 1
      have HE : Hid (PostW d R w a wk hlpOut (.ret true c' s') (.returned (.slice (some ⟨b, 0, none⟩) 1 1)) X) := ⟨hP2.1.trans (Kp.new hP2.2.2 bX), ⟨_, _, _, rfl, sX, by simp [hlpOut]⟩, hP2.2.2.below bX⟩
      clear hP2 bX sX
      go_wp2
      (try rw [hX]); (try rw [hb])
      go_ret
      exact HE.out
    | false =>
      obtain ⟨X, b, hX, hb, bX, sX⟩ := one_num w1 0
      have HE : Hid (PostW d R w a wk hlpOut (.ret false c' s') (.returned (.slice (some ⟨b, 0, none⟩) 1 1)) X) := ⟨hP2.1.trans (Kp.new hP2.2.2 bX), ⟨_, _, _, rfl, sX, by simp [hlpOut]⟩, hP2.2.2.below bX⟩
      clear hP2 bX sX
      go_wp2
      (try rw [hX]); (try rw [hb])
      go_ret
      exact HE.out
end
/-- A helper: where its thread lies, its number, the record that it does. -/
structure Hp where
  a : Nat
  me : Nat
  n : Int
  r : Rc
/-- What is shared can be counted, and the record is the helper's. -/
def PR (L : Nat) (x : Hp) (s : Sig) : Prop := Inv L 0 s ∧ rcOf s.rs x.n = x.r
abbrev hlpF : Nat := 49
theorem help_job {L : Nat} (d : Wd) (R : Nat → Prop) (w : World) (x : Hp) (hg : GoodR x.r) {Bn : Nat} (hc : w.cell? ⟨Bn, 0, none⟩ = some (.int .i64 x.n)) (hR : R Bn) : Job d R w hlpF x.me #[ptr Bn] (PR L x) (tHelp x.r x.n) hlpOut := by
  intro a wk R' w' h1 h2 w1 R1 zs st s h3 h4 h5 h6 h7
  exact help1_walk h7 (cell_same ((h4 _ (h1 _ hR)).trans (h2 _ hR)) hc) h6.2 hg h6.1.rc.1

/-- What is left of a helper's work, or what it answered. -/
inductive Ts where
  | run (u : Tr Bool)
  | fin (b : Bool)
def Ts.done : Ts → Bool
  | .run _ => false
  | .fin _ => true
def ofTr : Tr Bool → Ts
  | .ret v => .fin v
  | .tch g K => .run (.tch g K)
/-- A Step. -/
def nxT : Ts → Sig → Ts × Sig
  | .run (.ret v), s => (.fin v, s)
  | .run (.tch g K), s => (ofTr (K (g s).1), (g s).2)
  | .fin b, s => (.fin b, s)
/-- No longer than k touches. -/
def short : Nat → Tr Bool → Prop
  | _, .ret _ => True
  | 0, .tch _ _ => False
  | k + 1, .tch _ K => ∀ z, short k (K z)
theorem short_mono {k k' : Nat} {u : Tr Bool} (h : short k u) (hk : k ≤ k') : short k' u := by
  induction k generalizing u k' with
  | zero => cases u with
    | ret v => cases k' <;> exact trivial
    | tch g K => exact h.elim
  | succ k ih => cases u with
    | ret v => cases k' <;> exact trivial
    | tch g K =>
      obtain ⟨k', rfl⟩ : ∃ j, k' = j + 1 := ⟨k' - 1, by omega⟩
      exact fun z => ih (h z) (by omega)
theorem short_ev {k : Nat} {u : Tr Bool} (h : short k u) (s : Sig) : (ev u s).2.2 ≤ k := by
  induction k generalizing u s with
  | zero => cases u with
    | ret v => exact Nat.le_refl _
    | tch g K => exact h.elim
  | succ k ih => cases u with
    | ret v => exact Nat.zero_le _
    | tch g K => have := ih (h (g s).1) (g s).2; simp only [ev]; omega
theorem short_res {k : Nat} {zs : List Int} {t : Tr Bool} (h : short k t) (hp : path t zs) : short k (res t zs) := by
  induction zs generalizing k t with
  | nil => cases t <;> exact h
  | cons z zs ih => cases t with
    | ret v => exact hp.elim
    | tch g K => cases k with
      | zero => exact h.elim
      | succ k => exact short_mono (ih (h z) hp) (by omega)
theorem short_ret (k : Nat) (b : Bool) : short k (.ret b) := by cases k <;> exact trivial
theorem short_settle (n : Int) : short 2 (tSettle n) := fun z => by
  dsimp only
  split
  · exact short_ret _ _
  · exact fun _ => short_ret _ _
theorem short_bind {k m : Nat} {t : Tr Unit} {K : Unit → Tr Bool} (ht : ∀ F : Unit → Tr Bool, short m (F ()) → short (k + m) (t.bind F)) (hK : short m (K ())) : short (k + m) (t.bind K) := ht K hK
theorem short_marks (F : Tr Unit) (b : Bool) {m : Nat} (hF : short m (F.bind fun _ => .ret b)) (l : List Int) : short (l.length + m) ((tMarks F l).bind fun _ => .ret b) := by
  induction l with
  | nil => rw [List.length_nil, Nat.zero_add]; exact hF
  | cons r l ih =>
    rw [List.length_cons, show l.length + 1 + m = (l.length + m) + 1 from by omega]
    exact fun z => ih
theorem short_finish (r : Rc) (n : Int) : short (r.ns.length + 3) ((tFinish r n).bind fun _ => .ret true) := by
  have h1 : short 2 ((tWay r (tSet n 2)).bind fun _ => .ret true) := by
    unfold tWay
    split
    · exact fun z => trivial
    · exact fun z => fun z => trivial
  have h2 := short_marks _ _ h1 (r.ns.drop (min r.kp.toNat r.ns.length))
  exact fun z => short_mono h2 (by rw [List.length_drop]; omega)
theorem short_takes (r : Rc) (n : Int) (l : List (Int × Int)) : short (2 * l.length + (r.ns.length + 3)) (tTakes r n l) := by
  induction l with
  | nil => exact short_mono (short_finish r n) (by omega)
  | cons p l ih =>
    have e : 2 * (p :: l).length + (r.ns.length + 3) = (2 * l.length + (r.ns.length + 3)) + 1 + 1 := by rw [List.length_cons]; omega
    rw [e]
    intro z
    show short _ (Tr.bind (if (z != 0) = true then .ret true else .tch (gInfo p.1) fun y => .ret (y == n)) fun b => if b = true then tTakes r n l else tSettle n)
    split
    · exact short_mono ih (by omega)
    · intro y
      show short _ (if (y == n) = true then tTakes r n l else tSettle n)
      split
      · exact ih
      · exact short_mono (short_settle n) (by omega)
theorem short_help (r : Rc) (n : Int) (hg : GoodR r) : short 100 (tHelp r n) := short_mono (short_takes r n _) (by rw [List.length_zip]; have := hg.few; have := hg.len; omega)
/-- A Step, and what comes of it alone. -/
theorem nxT_ev (u : Tr Bool) (s : Sig) : (∃ v s', nxT (.run u) s = (.fin v, s') ∧ (ev u s).1 = v ∧ (ev u s).2.1 = s' ∧ (ev u s).2.2 ≤ 1) ∨ (∃ u' s', nxT (.run u) s = (.run u', s') ∧ (ev u s).1 = (ev u' s').1 ∧ (ev u s).2.1 = (ev u' s').2.1 ∧ (ev u s).2.2 = (ev u' s').2.2 + 1 ∧ 1 ≤ (ev u' s').2.2) := by
  cases u with
  | ret v => exact .inl ⟨v, s, rfl, rfl, rfl, Nat.zero_le _⟩
  | tch g K =>
    cases hK : K (g s).1 with
    | ret v => exact .inl ⟨v, (g s).2, by simp only [nxT, hK, ofTr], by simp only [ev, hK], by simp only [ev, hK], by simp only [ev, hK]; omega⟩
    | tch g' K' => exact .inr ⟨.tch g' K', (g s).2, by simp only [nxT, hK, ofTr], by show (ev (K (g s).1) _).1 = _; rw [hK], by show (ev (K (g s).1) _).2.1 = _; rw [hK], by show (ev (K (g s).1) _).2.2 + 1 = _; rw [hK], by simp only [ev]; omega⟩
theorem nxT_all {P : Sig → Prop} {u u' : Tr Bool} {s s' : Sig} (h : all P u s) (e : nxT (.run u) s = (.run u', s')) : all P u' s' := by
  cases u with
  | ret v => cases e
  | tch g K =>
    simp only [nxT] at e
    cases hK : K (g s).1 with
    | ret v => rw [hK] at e; cases e
    | tch g' K' =>
      rw [hK] at e
      injection e with e1 e2
      injection e1 with e1
      have := h.2
      rw [hK] at this
      rw [← e1, ← e2]; exact this
/-- The tree's Step is this one. -/
theorem stp_nxT (u : Tr Bool) (s : Sig) : (∃ v s', stp u s = .done v s' ∧ nxT (.run u) s = (.fin v, s')) ∨ (∃ g K g' K', u = .tch g K ∧ K (g s).1 = .tch g' K' ∧ stp u s = .more (g s).1 (g s).2 ∧ nxT (.run u) s = (.run (K (g s).1), (g s).2)) := by
  cases u with
  | ret v => exact .inl ⟨v, s, rfl, rfl⟩
  | tch g K =>
    cases hK : K (g s).1 with
    | ret v => exact .inl ⟨v, (g s).2, by simp only [stp, hK], by simp only [nxT, hK, ofTr]⟩
    | tch g' K' => exact .inr ⟨g, K, g', K', rfl, hK, by simp only [stp, hK], by simp only [nxT, hK, ofTr]⟩

/-- A helper in memory. -/
def HS (d : Wd) (T : Nat) (w : World) (x : Hp) (P : Nat → Prop) : Ts → Prop
  | .run u => GoodR x.r ∧ ∃ B1 B2 B3 B4 zs F V k, Th F w x.a (wkV B1 B2 B3) zs zs.length (.slice none 0 0) [] 0 k V ∧ Bx w d.W x.me hlpF #[ptr B4] B1 B2 B3 ∧ w.cell? ⟨B4, 0, none⟩ = some (.int .i64 x.n) ∧ (∀ b, F b → P b) ∧ P B1 ∧ P B2 ∧ P B3 ∧ P B4 ∧ (¬ F B1 ∧ ¬ F B2 ∧ ¬ F B3 ∧ ¬ F B4) ∧ path (tHelp x.r x.n) zs ∧ res (tHelp x.r x.n) zs = u ∧ (∀ z ∈ zs, in64 z) ∧ zs.length ≤ T
  | .fin b => ∃ F st k O, Th F w x.a .nilFunc [] st O (hlpOut b) 0 k (.slice none 0 0) ∧ ∀ b, F b → P b
theorem Bx.keep {w w' : World} {W me g B1 B2 B3 : Nat} {capw : Array Value} (h : Bx w W me g capw B1 B2 B3) (h1 : w'.heap[B1]? = w.heap[B1]?) (h2 : w'.heap[B2]? = w.heap[B2]?) (h3 : w'.heap[B3]? = w.heap[B3]?) : Bx w' W me g capw B1 B2 B3 :=
  ⟨cell_same h1 h.c1, cell_same h2 h.c2, cell_same h3 h.c3⟩
theorem HS.keep {d : Wd} {T T' : Nat} {w w' : World} {x : Hp} {P : Nat → Prop} {o : Ts} (h : HS d T w x P o) (hb : ∀ b, P b → w'.heap[b]? = w.heap[b]?) (hs : w.heap.size ≤ w'.heap.size) (hT : T ≤ T') : HS d T' w' x P o := by
  cases o with
  | run u =>
    obtain ⟨hg, B1, B2, B3, B4, zs, F, V, k, h1, h2, h3, h4, h5, h6, h7, h8, h9, q1, q2, q3, q4⟩ := h
    exact ⟨hg, B1, B2, B3, B4, zs, F, V, k, h1.keep (fun b e => hb b (h4 b e)) hs, h2.keep (hb _ h5) (hb _ h6) (hb _ h7), cell_same (hb _ h8) h3, h4, h5, h6, h7, h8, h9, q1, q2, q3, by omega⟩
  | fin b =>
    obtain ⟨F, st, k, O, h1, h2⟩ := h
    exact ⟨F, st, k, O, h1.keep (fun b e => hb b (h2 b e)) hs, h2⟩
/-- n helpers, the world, and a law's blocks R. -/
structure MS (d : Wd) (R : Nat → Prop) (n T : Nat) (hs : Nat → Hp) (os : Nat → Ts) (s : Sig) (FW : Nat → Prop) (P : Nat → Nat → Prop) (w : World) : Prop where
  ws : WS d FW w s
  rs : ∀ b, R b → b < w.heap.size ∧ ¬ FW b
  own : ∀ i, i < n → ∀ b, P i b → b < w.heap.size ∧ ¬ FW b ∧ ¬ R b
  sep : ∀ i j b, i < n → j < n → i ≠ j → P i b → ¬ P j b
  th : ∀ i, i < n → HS d T w (hs i) (P i) (os i)
def ME (d : Wd) (R : Nat → Prop) (n T : Nat) (hs : Nat → Hp) (os : Nat → Ts) (s : Sig) (w : World) : Prop := ∃ FW P, MS d R n T hs os s FW P w
/-- What stays as helper i goes on. -/
def Rf (n : Nat) (R : Nat → Prop) (P : Nat → Nat → Prop) (i b : Nat) : Prop := R b ∨ ∃ j, j < n ∧ j ≠ i ∧ P j b
section
variable {d : Wd} {R R' FW : Nat → Prop} {n T i : Nat} {hs : Nat → Hp} {os : Nat → Ts} {s s' : Sig} {P : Nat → Nat → Prop} {w w' : World} {L : Nat}
/-- Thread i is elsewhere. -/
def upd {α : Type} (f : Nat → α) (i : Nat) (x : α) : Nat → α := fun k => if k = i then x else f k
theorem upd_at {α : Type} (f : Nat → α) (i : Nat) (x : α) : upd f i x i = x := if_pos rfl
theorem upd_ne {α : Type} (f : Nat → α) {i k : Nat} (x : α) (h : k ≠ i) : upd f i x k = f k := if_neg h
theorem upd_same {α : Type} (f : Nat → α) (i : Nat) : upd f i (f i) = f := by funext k; unfold upd; split; (rename_i h; rw [h]); rfl
theorem upd_upd {α : Type} (f : Nat → α) (i : Nat) (x y : α) : upd (upd f i x) i y = upd f i y := by funext k; unfold upd; split <;> rfl
theorem MS.rf (h : MS d R n T hs os s FW P w) : ∀ b, Rf n R P i b → b < w.heap.size ∧ ¬ FW b := by
  rintro b (e | ⟨j, hj, -, e⟩)
  · exact h.rs b e
  · exact ⟨(h.own j hj b e).1, (h.own j hj b e).2.1⟩
theorem MS.other {T' : Nat} {FW' Q : Nat → Prop} {o : Ts} (h : MS d R n T hs os s FW P w) (hi : i < n) (hT : T ≤ T') (hK : Kp (Rf n R P i) w w') (hws : WS d FW' w' s') (hFW : ∀ b, Rf n R P i b → ¬ FW' b)
    (hQ : ∀ b, Q b → b < w'.heap.size ∧ ¬ FW' b ∧ ¬ Rf n R P i b) (hth : HS d T' w' (hs i) Q o) : ME d R n T' hs (upd os i o) s' w' := by
  refine ⟨FW', upd P i Q, hws, ?_, ?_, ?_, ?_⟩
  · exact fun b e => ⟨Nat.lt_of_lt_of_le (h.rs b e).1 hK.size, hFW b (.inl e)⟩
  · intro j hj b hb
    by_cases e : j = i
    · subst e
      rw [upd_at] at hb
      obtain ⟨q1, q2, q3⟩ := hQ b hb
      exact ⟨q1, q2, fun e => q3 (.inl e)⟩
    · rw [upd_ne _ _ e] at hb
      have := h.own j hj b hb
      exact ⟨Nat.lt_of_lt_of_le this.1 hK.size, hFW b (.inr ⟨j, hj, e, hb⟩), this.2.2⟩
  · intro j k b hj hk hne hb hb2
    by_cases e : j = i
    · subst e
      rw [upd_at] at hb
      rw [upd_ne _ _ (fun e => hne e.symm)] at hb2
      exact (hQ b hb).2.2 (.inr ⟨k, hk, fun e => hne e.symm, hb2⟩)
    · rw [upd_ne _ _ e] at hb
      by_cases e2 : k = i
      · subst e2
        rw [upd_at] at hb2
        exact (hQ b hb2).2.2 (.inr ⟨j, hj, e, hb⟩)
      · rw [upd_ne _ _ e2] at hb2
        exact h.sep j k b hj hk hne hb hb2
  · intro j hj
    by_cases e : j = i
    · subst e
      rw [upd_at, upd_at]
      exact hth
    · rw [upd_ne _ _ e, upd_ne _ _ e]
      exact (h.th j hj).keep (fun b hb => hK.block b (.inr ⟨j, hj, e, hb⟩)) hK.size hT
/-- The law's own operation on the world. -/
theorem MS.nx (h : MS d R n T hs os s FW P w) (hn : NxW d FW w s' w') : ME d R n T hs os s' w' ∧ Kp R w w' := by
  obtain ⟨FW', k1, k2, k3⟩ := hn
  refine ⟨⟨FW', P, k1, fun b e => ⟨Nat.lt_of_lt_of_le (h.rs b e).1 k2.size, fun f => ?_⟩, fun i hi b e => ?_, h.sep, fun i hi => (h.th i hi).keep (fun b e => k2.block b (h.own i hi b e).1 (h.own i hi b e).2.1) k2.size (Nat.le_refl _)⟩, Kp.only k2 h.rs⟩
  · rcases k3 b f with f | f
    · exact (h.rs b e).2 f
    · have := (h.rs b e).1; omega
  · have := h.own i hi b e
    refine ⟨Nat.lt_of_lt_of_le this.1 k2.size, fun f => ?_, this.2.2⟩
    rcases k3 b f with f | f
    · exact this.2.1 f
    · omega
theorem ME.more (h : ME d R n T hs os s w) (hb : Below w.heap.size w w') (hR : ∀ b, R' b → R b ∨ (w.heap.size ≤ b ∧ b < w'.heap.size)) : ME d R' n T hs os s w' := by
  obtain ⟨FW, P, h⟩ := h
  refine ⟨FW, P, h.ws.below hb, fun b e => ?_, fun i hi b e => ?_, h.sep, fun i hi => (h.th i hi).keep (fun b e => hb.block b (h.own i hi b e).1) hb.size (Nat.le_refl _)⟩
  · rcases hR b e with e | e
    · exact ⟨Nat.lt_of_lt_of_le (h.rs b e).1 hb.size, (h.rs b e).2⟩
    · exact ⟨e.2, fun f => by have := h.ws.lt b f; omega⟩
  · have := h.own i hi b e
    refine ⟨Nat.lt_of_lt_of_le this.1 hb.size, this.2.1, fun f => ?_⟩
    rcases hR b f with f | f
    · exact this.2.2 f
    · omega
theorem ME.below (h : ME d R n T hs os s w) (hb : Below w.heap.size w w') : ME d R n T hs os s w' := h.more hb fun b e => .inl e
/-- A store into a block of the law's. -/
theorem ME.set (h : ME d R n T hs os s w) {q j : Nat} (hq : R q) (v : Value) : ME d R n T hs os s (w.setCell ⟨q, j, none⟩ v) := by
  obtain ⟨FW, P, h⟩ := h
  have hne : ∀ b, b ≠ q → (w.setCell ⟨q, j, none⟩ v).heap[b]? = w.heap[b]? := fun b e => heap_setCell_other w ⟨q, j, none⟩ b v (fun e2 => e e2)
  have hsz : (w.setCell ⟨q, j, none⟩ v).heap.size = w.heap.size := by simp
  exact ⟨FW, P, h.ws.keep (fun b e => hne b fun e2 => (h.rs q hq).2 (e2 ▸ e)) (by omega), fun b e => by rw [hsz]; exact h.rs b e, fun i hi b e => by rw [hsz]; exact h.own i hi b e, h.sep, fun i hi => (h.th i hi).keep (fun b e => hne b fun e2 => (h.own i hi b e).2.2 (e2 ▸ hq)) (by omega) (Nat.le_refl _)⟩
/-- The first: no helper yet. -/
theorem ME.none_ (h : Idle d R w s) : ME d R 0 0 hs os s w := by
  obtain ⟨FW, h1, h2⟩ := h
  exact ⟨FW, fun _ _ => False, h1, h2, fun i hi => absurd hi (by omega), fun i j b hi => absurd hi (by omega), fun i hi => absurd hi (by omega)⟩
theorem ME.later {T' : Nat} (h : ME d R n T hs os s w) (hT : T ≤ T') : ME d R n T' hs os s w := by
  obtain ⟨FW, P, h⟩ := h
  exact ⟨FW, P, h.ws, h.rs, h.own, h.sep, fun i hi => (h.th i hi).keep (fun _ _ => rfl) (Nat.le_refl _) hT⟩
theorem ME.ws (h : ME d R n T hs os s w) : ∃ FW, WS d FW w s := by obtain ⟨FW, P, h⟩ := h; exact ⟨FW, h.ws⟩
/-- A helper is started. -/
theorem helper_walk {me : Nat} {z : Int} {r : Rc} (h : ME d R n T hs os s w) (hg : GoodR r) :
    Calls Try.prog 25 #[ptr d.W, .int .i64 (me : Int), .int .i64 z] w fun e w' => ∃ a, e = .returned (ptr a) ∧ ME d R (n + 1) T (upd hs n ⟨a, me, z, r⟩) (upd os n (.run (tHelp r z))) s w' ∧ Below w.heap.size w w' := by
  have e3 := mk_fn
  obtain ⟨FW, P, hM⟩ := h
  obtain ⟨X, b, hX, hb, bX, cX⟩ : ∃ (X : World) (b : Nat), w.alloc (.cells #[.int .i64 z] 2) = X ∧ w.heap.size = b ∧ Below w.heap.size w X ∧ X.cell? ⟨b, 0, none⟩ = some (.int .i64 z) := ⟨_, _, rfl, rfl, below_new _ _, c_new rfl rfl⟩
  have hbX : b < X.heap.size := World.block_lt_of_cell? X _ cX
  have hid : Idle d (fun q => Rf n R P n q ∨ q = b) X s := ⟨FW, hM.ws.below bX, fun q e => by
    rcases e with e | e
    · exact ⟨Nat.lt_of_lt_of_le (hM.rf q e).1 bX.size, (hM.rf q e).2⟩
    · exact ⟨by omega, fun f => by have := hM.ws.lt q f; omega⟩⟩
  have HS0 := Lib.hid (start_walk (me := me) (g := hlpF) (capw := #[ptr b]) hid)
  have HE : Hid (∀ e w', Started d (fun q => Rf n R P n q ∨ q = b) X me hlpF #[ptr b] s e w' → ∃ a, e = .returned (ptr a) ∧ ME d R (n + 1) T (upd hs n ⟨a, me, z, r⟩) (upd os n (.run (tHelp r z))) s w' ∧ Below w.heap.size w w') := by
    rintro e w' ⟨a, B1, B2, B3, rfl, hx, ⟨⟨k, F, FW', V, k1, k2, k3, k4⟩, -⟩, hbw, l1, l2, l3, l4, l5⟩
    have hK : Kp (Rf n R P n) w w' := (Kp.below bX fun q e => (hM.rf q e).1).trans (Kp.below hbw fun q e => Nat.lt_of_lt_of_le (hM.rf q e).1 bX.size)
    refine ⟨a, rfl, ⟨FW', upd P n (fun q => F q ∨ q = b ∨ q = B1 ∨ q = B2 ∨ q = B3), k2, ?_, ?_, ?_, ?_⟩, bX.trans (hbw.mono bX.size)⟩
    · intro q e
      exact ⟨(k4 q (.inl (.inl (.inl e)))).1, (k4 q (.inl (.inl (.inl e)))).2.2⟩
    · intro j hj q hq
      by_cases e : j = n
      · subst e
        rw [upd_at] at hq
        have notR : ∀ q, w.heap.size ≤ q → ¬ R q := fun q e f => by have := (hM.rs q f).1; omega
        rcases hq with e | e | e | e | e
        · exact ⟨k1.lt q e, k3 q e, fun f => (k4 q (.inl (.inl (.inl f)))).2.1 e⟩
        · subst e; exact ⟨(k4 q (.inl (.inr rfl))).1, (k4 q (.inl (.inr rfl))).2.2, notR q (by omega)⟩
        · subst e; exact ⟨(k4 q (.inr (.inl rfl))).1, (k4 q (.inr (.inl rfl))).2.2, notR q (by have := bX.size; omega)⟩
        · subst e; exact ⟨(k4 q (.inr (.inr (.inl rfl)))).1, (k4 q (.inr (.inr (.inl rfl)))).2.2, notR q (by have := bX.size; omega)⟩
        · subst e; exact ⟨(k4 q (.inr (.inr (.inr rfl)))).1, (k4 q (.inr (.inr (.inr rfl)))).2.2, notR q (by have := bX.size; omega)⟩
      · rw [upd_ne _ _ e] at hq
        have hj : j < n := by omega
        have r4 := k4 q (.inl (.inl (.inr ⟨j, hj, e, hq⟩)))
        exact ⟨r4.1, r4.2.2, (hM.own j hj q hq).2.2⟩
    · intro i j q hi hj hne h1 h2
      have key : ∀ j, j < n → ∀ q, P j q → ¬ (F q ∨ q = b ∨ q = B1 ∨ q = B2 ∨ q = B3) := by
        intro j hj q hq e
        have r4 := k4 q (.inl (.inl (.inr ⟨j, hj, by omega, hq⟩)))
        have hlt := (hM.own j hj q hq).1
        have := bX.size
        rcases e with e | e | e | e | e
        · exact r4.2.1 e
        all_goals omega
      by_cases e1 : i = n
      · subst e1
        rw [upd_at] at h1
        rw [upd_ne _ _ (fun e => hne e.symm)] at h2
        exact key j (by omega) q h2 h1
      · rw [upd_ne _ _ e1] at h1
        by_cases e2 : j = n
        · subst e2
          rw [upd_at] at h2
          exact key i (by omega) q h1 h2
        · rw [upd_ne _ _ e2] at h2
          exact hM.sep i j q (by omega) (by omega) hne h1 h2
    · intro j hj
      by_cases e : j = n
      · subst e
        rw [upd_at, upd_at, upd_at]
        refine ⟨hg, B1, B2, B3, b, [], F, V, k, k1, hx, below_read hbw cX, fun q e => .inl e, .inr (.inr (.inl rfl)), .inr (.inr (.inr (.inl rfl))), .inr (.inr (.inr (.inr rfl))), .inr (.inl rfl), ⟨fun e => (k4 B1 (.inr (.inl rfl))).2.1 e, fun e => (k4 B2 (.inr (.inr (.inl rfl)))).2.1 e, fun e => (k4 B3 (.inr (.inr (.inr rfl)))).2.1 e, fun e => (k4 b (.inl (.inr rfl))).2.1 e⟩, by simp [path], by simp [res], fun z hz => (by cases hz), Nat.zero_le _⟩
      · rw [upd_ne _ _ e, upd_ne _ _ e, upd_ne _ _ e]
        exact (hM.th j (by omega)).keep (fun q hq => hK.block q (.inr ⟨j, by omega, e, hq⟩)) hK.size (Nat.le_refl _)
  clear hM hid cX bX
  go_enter Try.func25, Try.ntmps25
  go_wp2_with fail
  (try rw [hX]); (try rw [hb])
  refine HS0.out.mono ?_
  intro e w1 hP
  obtain ⟨a, rfl, h2⟩ := HE.out e w1 hP
  have H2 := Lib.hid h2
  clear HS0 HE hP h2
  go_wp2
  go_ret
  exact ⟨a, rfl, H2.out⟩
/-- A Step of helper i. -/
theorem ME.step (h : ME d R n T hs os s w) (hi : i < n) (hP0 : (os i).done = false → PR L (hs i) s) (hT : T ≤ 400) :
    Calls Try.prog 32 #[ptr (hs i).a] w fun e w' => e = .returned (.bool (nxT (os i) s).1.done) ∧ ME d R n (T + 1) hs (upd os i (nxT (os i) s).1) (nxT (os i) s).2 w' ∧ Kp R w w' := by
  obtain ⟨FW, P, h⟩ := h
  have ht := h.th i hi
  cases ho : os i with
  | fin b =>
    rw [ho] at ht
    obtain ⟨F, st, k, O, h1, h2⟩ := ht
    refine (step_done h1).mono ?_
    rintro e w' ⟨rfl, rfl⟩
    refine ⟨rfl, ⟨FW, P, h.ws, h.rs, h.own, h.sep, fun j hj => ?_⟩, Kp.refl _ _⟩
    have : upd os i (nxT (.fin b) s).1 = os := by rw [show (nxT (.fin b) s).1 = os i from ho.symm]; exact upd_same os i
    rw [this]
    exact (h.th j hj).keep (fun _ _ => rfl) (Nat.le_refl _) (by omega)
  | run u =>
    rw [ho] at ht
    obtain ⟨hg, B1, B2, B3, B4, zs, F, V, k, k1, hx, hc4, k3, k4, k5, k6, kB4, ⟨n1, n2, n3, n4⟩, k7, k8, k9, k10⟩ := ht
    have hP := hP0 (by rw [ho]; rfl)
    have hRest : Rest d (fun b => Rf n R P i b ∨ b = B1 ∨ b = B2 ∨ b = B3 ∨ b = B4) w (hs i).a (wkV B1 B2 B3) zs zs.length s := by
      refine ⟨⟨k, F, FW, V, k1, h.ws, fun b e => (h.own i hi b (k3 b e)).2.1, ?_⟩, k9⟩
      have box : ∀ B, P i B → ¬ F B → B < w.heap.size ∧ ¬ F B ∧ ¬ FW B := fun B e n => ⟨(h.own i hi B e).1, n, (h.own i hi B e).2.1⟩
      rintro b (e | e | e | e | e)
      · refine ⟨(h.rf b e).1, fun f => ?_, (h.rf b e).2⟩
        have := h.own i hi b (k3 b f)
        rcases e with e | ⟨j, hj, hne, e⟩
        · exact this.2.2 e
        · exact h.sep j i b hj hi hne e (k3 b f)
      · rw [e]; exact box B1 k4 n1
      · rw [e]; exact box B2 k5 n2
      · rw [e]; exact box B3 k6 n3
      · rw [e]; exact box B4 kB4 n4
    have hW := start_works (d := d) (me := (hs i).me) (g := hlpF) (capw := #[ptr B4]) (P := PR L (hs i)) (t := tHelp (hs i).r (hs i).n) (out := hlpOut) (R := fun b => Rf n R P i b ∨ b = B1 ∨ b = B2 ∨ b = B3 ∨ b = B4) (w := w) (a := (hs i).a) rfl (fun W => rfl) hx (.inr (.inl rfl)) (.inr (.inr (.inl rfl))) (.inr (.inr (.inr (.inl rfl)))) (help_job d (fun b => b = B4) w (hs i) hg hc4 rfl (hs i).a (wkV B1 B2 B3) _ w (fun b e => .inr (.inr (.inr (.inr e)))) (fun b e => rfl))
    have hst := step_tree (cap := #[ptr B3, ptr B1, ptr B2]) rfl (fun W => rfl) hW hRest k7 hP.1.fit hP (by omega)
    refine hst.mono ?_
    intro e w' hPo
    rw [k8] at hPo
    rcases stp_nxT u s with ⟨v, s1, e4, e1⟩ | ⟨g, K, g', K', e2, e3, e4, e1⟩
    · rw [e4] at hPo
      obtain ⟨hK, he, ⟨F', FW', st', k', O', r1, r2, r3, r4⟩⟩ := hPo
      rw [e1]
      refine ⟨he, h.other hi (by omega) (hK.mono fun b e => .inl e) r2 (fun b r => (r4 b (.inl r)).2.2) (Q := F') (fun b e => ⟨r1.lt b e, r3 b e, fun r => (r4 b (.inl r)).2.1 e⟩) ⟨F', st', k', O', r1, fun b e => e⟩, hK.mono fun b e => .inl (.inl e)⟩
    · rw [e4] at hPo
      obtain ⟨hK, he, ⟨⟨k', F', FW', V', r1, r2, r3, r4⟩, r5⟩⟩ := hPo
      rw [e1]
      obtain ⟨q1, q2⟩ := path_snoc k7 (k8.trans e2) (g s).1
      refine ⟨he, h.other hi (by omega) (hK.mono fun b e => .inl e) r2 (fun b r => (r4 b (.inl r)).2.2) (Q := fun b => F' b ∨ b = B1 ∨ b = B2 ∨ b = B3 ∨ b = B4) ?_ ?_, hK.mono fun b e => .inl (.inl e)⟩
      · have own : ∀ B, P i B → ¬ Rf n R P i B := fun B hB r => by
          have := h.own i hi B hB
          rcases r with r | ⟨j, hj, hne, r⟩
          · exact this.2.2 r
          · exact h.sep j i B hj hi hne r hB
        rintro b (e | e | e | e | e)
        · exact ⟨r1.lt b e, r3 b e, fun r => (r4 b (.inl r)).2.1 e⟩
        · rw [e]; exact ⟨(r4 B1 (.inr (.inl rfl))).1, (r4 B1 (.inr (.inl rfl))).2.2, own B1 k4⟩
        · rw [e]; exact ⟨(r4 B2 (.inr (.inr (.inl rfl)))).1, (r4 B2 (.inr (.inr (.inl rfl)))).2.2, own B2 k5⟩
        · rw [e]; exact ⟨(r4 B3 (.inr (.inr (.inr (.inl rfl))))).1, (r4 B3 (.inr (.inr (.inr (.inl rfl))))).2.2, own B3 k6⟩
        · rw [e]; exact ⟨(r4 B4 (.inr (.inr (.inr (.inr rfl))))).1, (r4 B4 (.inr (.inr (.inr (.inr rfl))))).2.2, own B4 kB4⟩
      · refine ⟨hg, B1, B2, B3, B4, zs ++ [(g s).1], F', V', k', by rw [List.length_append]; exact r1, hx.keep (hK.block _ (.inr (.inl rfl))) (hK.block _ (.inr (.inr (.inl rfl)))) (hK.block _ (.inr (.inr (.inr (.inl rfl))))), cell_same (hK.block _ (.inr (.inr (.inr (.inr rfl))))) hc4, fun b e => .inl e, .inr (.inl rfl), .inr (.inr (.inl rfl)), .inr (.inr (.inr (.inl rfl))), .inr (.inr (.inr (.inr rfl))), ⟨fun e => (r4 B1 (.inr (.inl rfl))).2.1 e, fun e => (r4 B2 (.inr (.inr (.inl rfl)))).2.1 e, fun e => (r4 B3 (.inr (.inr (.inr (.inl rfl))))).2.1 e, fun e => (r4 B4 (.inr (.inr (.inr (.inr rfl))))).2.1 e⟩, q1, q2, r5, by rw [List.length_append, List.length_singleton]; omega⟩
/-- Out of a helper at its end. -/
theorem ME.out {b : Bool} (h : ME d R n T hs os s w) (hi : i < n) (ho : os i = .fin b) : Calls Try.prog 51 #[ptr (hs i).a] w fun e w' => ∃ A m q, e = .returned (.slice A m q) ∧ Row 2 w.heap.size w' (.slice A m q) (hlpOut b) ∧ Below w.heap.size w w' := by
  obtain ⟨FW, P, h⟩ := h
  have ht := h.th i hi
  rw [ho] at ht
  obtain ⟨F, st, k, O, h1, h2⟩ := ht
  refine (out_walk h1 (by simp [hlpOut])).mono ?_
  rintro e w' ⟨v, rfl, hr, hb⟩
  obtain ⟨A, m, q, rfl⟩ := hr.shape
  exact ⟨A, m, q, rfl, hr, hb⟩
end
end Go.Proofs.Ytfloblofdkemlaa
