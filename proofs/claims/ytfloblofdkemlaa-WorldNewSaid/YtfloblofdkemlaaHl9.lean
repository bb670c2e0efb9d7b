/-
  What the laws' Nodes and Make come to; a law's own memory beside helpers; what is read of a world.
-/
import Derived.Test.YtfloblofdkemlaaHn9
import Derived.Test.YtfloblofdkemlaaAk8
namespace Go.Proofs.Ytfloblofdkemlaa
open Go.ChangeShapes Go.WideShapes Go.ChangeAt Go.RowKit
set_option linter.unusedVariables false
set_option linter.unusedSimpArgs false
set_option maxRecDepth 20000

section
variable {sl el : TypeId} (RT : RowT sl el) {w : World}
include RT
/-- append to a row of numbers: where it lies then. -/
theorem run_pushN {T : Value} {A : Option Addr} {n c : Nat} {zs ms : List Int} (hown : Row el 0 w T zs) (hm : Sl w A n c ms) (hl : zs.length + ms.length ≤ 100000) (hA : A ≠ none) :
    ∃ A' m c' w', (Builtin.append_ #[sl, sl] sl #[T, .slice A n c]).run Try.prog w = .ok (.slice A' m c') w' ∧ Row el 0 w' (.slice A' m c') (zs ++ ms) ∧ w.grownBy w' T.ownBlock ∧ ∀ b, (Value.slice A' m c').ownBlock = some b → T.ownBlock = some b ∨ w.heap.size ≤ b := by
  obtain ⟨i0, hi0, hz0, hz1, hz2⟩ := info_parts RT.info
  cases A with
  | none => exact absurd rfl hA
  | some ad =>
    have hn := hm.len
    obtain ⟨v', w', h1, h2, h3, h4⟩ := run_push (w := w) sl sl el i0 _ 1 8 RT.under hi0 hz0 hz1 hz2 rfl (by omega) T zs.length (ints zs) hown ad n c (ints ms) (by rw [ints_length, hn]; omega)
      (by
        intro j u hj
        rcases hm.cells with e | ⟨b, off, e, hc⟩
        · subst e; simp [ints] at hj
        · have e := Option.some.inj e
          subst e
          obtain ⟨z, hz, rfl⟩ := ints_at hj
          rw [add_lit0]
          exact hc j z hz) (ints_one _) (by unfold maxLen; omega) (by omega)
    have hR : Row el 0 w' v' (zs ++ ms) := by
      unfold Row
      rw [List.length_append, ← hn, ints_append]
      exact h2
    obtain ⟨A', m, c', rfl⟩ := hR.shape
    exact ⟨A', m, c', w', h1, hR, h3, h4⟩
end
section
variable {d : Wd} {R R' FW : Nat → Prop} {n T i : Nat} {hs : Nat → Hp} {os : Nat → Ts} {s s' : Sig} {P : Nat → Nat → Prop} {w w' : World} {L : Nat}
theorem nxW_infoR {p : Pa} {r : Int} (h : WS d FW w s) (hok : Ok s.ar) (hh : s.ar.hit r = some (i, p)) : Calls Try.prog 30 #[ptr d.A, .int .i64 r] w fun e w' => e = .returned (.int .i64 p.info) ∧ w = w' := by
  obtain ⟨FA, h1, h2, h3⟩ := h.ar
  obtain ⟨k1, k2, k3⟩ := hit_some hh
  exact info_yes h1 hok k1 k2 k3
theorem nxW_markR {p : Pa} {r : Int} (h : WS d FW w s) (hok : Ok s.ar) (hh : s.ar.hit r = some (i, p)) : Calls Try.prog 31 #[ptr d.A, .int .i64 r] w fun e w' => e = .returned (.bool p.mark) ∧ w = w' := by
  obtain ⟨FA, h1, h2, h3⟩ := h.ar
  obtain ⟨k1, k2, k3⟩ := hit_some hh
  exact mark_yes h1 hok k1 k2 k3
theorem nxW_stateR {x : Re} {m : Int} (h : WS d FW w s) (hl : s.rs.length ≤ 1000) (hh : rcAt s.rs m = some (i, x)) : Calls Try.prog 28 #[ptr d.R, .int .i64 m] w fun e w' => e = .returned (.int .u8 x.st) ∧ w = w' := by
  obtain ⟨FT, ⟨l, P, h1, h2⟩, -, -⟩ := h.rc
  obtain ⟨k1, k2⟩ := rcAt_some hh
  obtain ⟨y, y1, y2⟩ := it_at h2 k1
  have := recState_yes h1 y1 k2 (by rw [len_it h2]; omega)
  rw [← y2]
  exact this
theorem nxW_allR {x : Re} {m : Int} (h : WS d FW w s) (hl : s.rs.length ≤ 1000) (hh : rcAt s.rs m = some (i, x)) : Calls Try.prog 29 #[ptr d.R, .int .i64 m] w fun e w' => e = .returned (.bool x.all) ∧ w = w' := by
  obtain ⟨FT, ⟨l, P, h1, h2⟩, -, -⟩ := h.rc
  obtain ⟨k1, k2⟩ := rcAt_some hh
  obtain ⟨y, y1, y2⟩ := it_at h2 k1
  have := recAll_yes h1 y1 k2 (by rw [len_it h2]; omega)
  rw [← y2]
  exact this
theorem nxW_rmake {A B : Option Addr} {m c e : Nat} {r : Rc} (h : WS d FW w s) (hr : Sl w A m c r.ns) (hk : Sl w B m e r.is) (hkp : 0 ≤ r.kp) (hroom : s.rs.length < d.m) (hmo : d.m ≤ 65536) (hn : m ≤ 20) :
    Calls Try.prog 23 #[ptr d.R, rcv (.slice A m c) (.slice B m e) r] w fun e w' => e = .returned (.tuple #[.int .i64 ((s.rs.length : Int) + 1), .bool true]) ∧ NxW d FW w { s with rs := s.rs ++ [⟨r, 1, false⟩] } w' := by
  obtain ⟨FT, ⟨l, P, h1, h2⟩, -, h3⟩ := h.rc
  refine (recMake_yes h1 A B m c e r hr hk hkp (by rw [len_it h2]; exact hroom) hmo hn).mono ?_
  rintro e w' ⟨rfl, F', P', u, v, q1, q2, q3⟩
  refine ⟨by rw [len_it h2], h3 _ _ ⟨F', ⟨_, P', q1, ?_⟩, q2, q3⟩⟩
  rw [List.map_append, h2]
  rfl
/-- A block of the law's own has grown. -/
theorem ME.kept {g : Option Nat} (h : ME d R n T hs os s w) (hg : w.grownBy w' g) (hR : ∀ b, g = some b → R b) (hR' : ∀ b, R' b → R b ∨ (w.heap.size ≤ b ∧ b < w'.heap.size)) : ME d R' n T hs os s w' := by
  obtain ⟨FW, P, h⟩ := h
  have hb : ∀ b, b < w.heap.size → ¬ R b → w'.heap[b]? = w.heap[b]? := fun b e1 e2 => hg.block b e1 fun e => e2 (hR b e.symm)
  refine ⟨FW, P, h.ws.keep (fun b e => hb b (h.ws.lt b e) fun f => (h.rs b f).2 e) hg.size, fun b e => ?_, fun i hi b e => ?_, h.sep, fun i hi => (h.th i hi).keep (fun b e => hb b (h.own i hi b e).1 (h.own i hi b e).2.2) hg.size (Nat.le_refl _)⟩
  · rcases hR' b e with e | e
    · exact ⟨Nat.lt_of_lt_of_le (h.rs b e).1 hg.size, (h.rs b e).2⟩
    · exact ⟨e.2, fun f => by have := h.ws.lt b f; omega⟩
  · have := h.own i hi b e
    refine ⟨Nat.lt_of_lt_of_le this.1 hg.size, this.2.1, fun f => ?_⟩
    rcases hR' b f with f | f
    · exact this.2.2 f
    · omega
theorem ME.mono (h : ME d R n T hs os s w) (hR : ∀ b, R' b → R b) : ME d R' n T hs os s w := h.more (Below.refl _ w) fun b e => .inl (hR b e)
theorem ME.lt (h : ME d R n T hs os s w) : ∀ b, R b → b < w.heap.size := by obtain ⟨FW, P, h⟩ := h; exact fun b e => (h.rs b e).1
/-- Alone, by what is shared as it begins. -/
theorem ME.alone' {u : Tr Bool} (h : ME d R n T hs os s w) (hi : i < n) (ho : os i = .run u) (hI : Inv L 101 s) (hrc : rcOf s.rs (hs i).n = (hs i).r) (hn : in64 (hs i).n) (hT : T ≤ 250) :
    Calls Try.prog 26 #[ptr (hs i).a] w fun e w' => ∃ A q c, e = .returned (.tuple #[.slice A q c, .int .i64 ((max (ev u s).2.2 1 : Nat) : Int), .bool true]) ∧ Row 2 w.heap.size w' (.slice A q c) (hlpOut (ev u s).1) ∧ ME d R n (T + 101) hs (upd os i (.fin (ev u s).1)) (ev u s).2.1 w' ∧ Kp R w w' := by
  obtain ⟨FW, P, hM⟩ := h
  have ht := hM.th i hi
  rw [ho] at ht
  obtain ⟨hg, B1, B2, B3, B4, zs, F, V, k, -, -, -, -, -, -, -, -, -, q1, q2, q3, -⟩ := ht
  have h1 : tame L u := by rw [← q2]; exact tame_res (tame_help _ hn) q1 q3
  have h2 : u.keeps (rcP (hs i).n (hs i).r) := by rw [← q2]; exact keeps_res (rc_help _ _ _ _) q1
  have h3 : short 100 u := by rw [← q2]; exact short_res (short_help _ _ hg) q1
  have hm := short_ev h3 s
  have ha := all_and (all_mono (fun s h => h.mono (Nat.zero_le _)) (tame_all h1 s 0 (hI.mono (by omega))).1) (keeps_all h2 hrc)
  exact ME.alone ⟨FW, P, hM⟩ hi ho ha hT hm

/-- A law's state: its own blocks X, what it was handed, the world, helpers. -/
structure MB (W : World) (X : Nat → Prop) (d : Wd) (n T : Nat) (hs : Nat → Hp) (os : Nat → Ts) (s : Sig) (w : World) : Prop where
  me : ME d (fun b => b < W.heap.size ∨ X b) n T hs os s w
  bel : Below W.heap.size W w
variable {W : World} {X X' : Nat → Prop}
theorem MB.kp (h : MB W X d n T hs os s w) {n' T' : Nat} {hs' : Nat → Hp} {os' : Nat → Ts} (h2 : ME d (fun b => b < W.heap.size ∨ X b) n' T' hs' os' s' w') (hk : Kp (fun b => b < W.heap.size ∨ X b) w w') : MB W X d n' T' hs' os' s' w' := ⟨h2, h.bel.trans (kp_below (hk.mono fun b e => .inl e))⟩
theorem MB.below (h : MB W X d n T hs os s w) (hb : Below w.heap.size w w') : MB W X d n T hs os s w' := ⟨h.me.below hb, h.bel.trans (hb.mono h.bel.size)⟩
theorem MB.more (h : MB W X d n T hs os s w) (hb : Below w.heap.size w w') (hX : ∀ b, X' b → X b ∨ (w.heap.size ≤ b ∧ b < w'.heap.size)) : MB W X' d n T hs os s w' := ⟨h.me.more hb (fun b e => e.elim (fun e => .inl (.inl e)) fun e => (hX b e).imp .inr id), h.bel.trans (hb.mono h.bel.size)⟩
theorem MB.mono (h : MB W X d n T hs os s w) (hX : ∀ b, X' b → X b) : MB W X' d n T hs os s w := ⟨h.me.mono fun b e => e.imp id (hX b), h.bel⟩
theorem MB.kept {g : Option Nat} (h : MB W X d n T hs os s w) (hg : w.grownBy w' g) (hX : ∀ b, g = some b → X b ∧ W.heap.size ≤ b) (hX' : ∀ b, X' b → X b ∨ (w.heap.size ≤ b ∧ b < w'.heap.size)) : MB W X' d n T hs os s w' :=
  ⟨h.me.kept hg (fun b e => .inr (hX b e).1) (fun b e => e.elim (fun e => .inl (.inl e)) fun e => (hX' b e).imp .inr id), h.bel.trans ⟨hg.os, hg.tape, hg.output, hg.size, fun b e => hg.block b (Nat.lt_of_lt_of_le e h.bel.size) fun e2 => by have := (hX b e2.symm).2; omega⟩⟩
theorem MB.ws (h : MB W X d n T hs os s w) : ∃ FW, WS d FW w s := h.me.ws
theorem MB.cells (h : MB W X d n T hs os s w) : w.cell? ⟨d.W, 0, none⟩ = some (ptr d.A) ∧ w.cell? ⟨d.W, 1, none⟩ = some (ptr d.R) ∧ w.cell? ⟨d.W, 2, none⟩ = some (ptr d.E) ∧ w.cell? ⟨d.W, 3, none⟩ = some (.int .i64 d.a) ∧ w.cell? ⟨d.W, 4, none⟩ = some (.int .i64 d.b) ∧ w.cell? ⟨d.W, 5, none⟩ = some (.int .i64 d.en) := by
  obtain ⟨FW, h⟩ := h.ws; exact h.cells
theorem MB.nx {F : Nat} {args : Array Value} {v : Value} (h : MB W X d n T hs os s w) (hc : ∀ FW, WS d FW w s → Calls Try.prog F args w fun e w' => e = .returned v ∧ NxW d FW w s' w') : Calls Try.prog F args w fun e w' => e = .returned v ∧ MB W X d n T hs os s' w' := by
  obtain ⟨⟨FW, P, hM⟩, hb⟩ := h
  refine (hc FW hM.ws).mono ?_
  rintro e w' ⟨rfl, hn⟩
  obtain ⟨k1, k2⟩ := hM.nx hn
  exact ⟨rfl, k1, hb.trans (kp_below (k2.mono fun b e => .inl e))⟩
theorem MB.lt (h : MB W X d n T hs os s w) : ∀ b, X b → b < w.heap.size := fun b e => h.me.lt b (.inr e)
theorem sl_one9 {b : Nat} {z : Int} (h : w.cell? ⟨b, 0, none⟩ = some (.int .i64 z)) : Sl w (some ⟨b, 0, none⟩) 1 1 [z] :=
  ⟨rfl, Nat.le_refl _, fun e => (by cases e), .inr ⟨_, 0, rfl, fun i y hi => by
    cases i with
    | zero => injection hi with hi; subst hi; exact h
    | succ i => simp at hi⟩⟩
theorem sl_two9 {b : Nat} {z y : Int} (h : w.cell? ⟨b, 0, none⟩ = some (.int .i64 z)) (h' : w.cell? ⟨b, 1, none⟩ = some (.int .i64 y)) : Sl w (some ⟨b, 0, none⟩) 2 2 [z, y] :=
  ⟨rfl, Nat.le_refl _, fun e => (by cases e), .inr ⟨_, 0, rfl, fun i x hi => by
    match i with
    | 0 => injection hi with hi; subst hi; exact h
    | 1 => injection hi with hi; subst hi; exact h'
    | i + 2 => simp at hi⟩⟩
/-- A law's slice, whose block is its own. -/
theorem Sl.keepX {A : Option Addr} {m q : Nat} {rs : List Int} (h : Sl w A m q rs) (hA : ∀ ad : Addr, A = some ad → X ad.block) (hk : ∀ b, X b → b < w.heap.size → w'.heap[b]? = w.heap[b]?) : Sl w' A m q rs := h.keepAt fun ad e hl => hk _ (hA ad e) hl
end
end Go.Proofs.Ytfloblofdkemlaa
