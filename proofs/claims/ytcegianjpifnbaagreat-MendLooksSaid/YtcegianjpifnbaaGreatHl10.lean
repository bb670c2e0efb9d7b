/-
  What the laws' Nodes and Make come to; a law's own memory beside helpers; what is read of a world.
-/
import Derived.Test.YtcegianjpifnbaaGreatHn10
import Derived.Test.YtcegianjpifnbaaGreatLp10
import Derived.Test.YtcegianjpifnbaaGreatAk8
namespace Go.Proofs.YtcegianjpifnbaaGreat
open Go.ChangeShapes Go.WideShapes Go.ChangeAt Go.RowKit
set_option linter.unusedVariables false
set_option linter.unusedSimpArgs false
set_option maxRecDepth 20000

section
variable {d : Wd} {R R' FW : Nat → Prop} {n T i : Nat} {hs : Nat → Hp} {os : Nat → Ts} {s s' : Sig} {P : Nat → Nat → Prop} {w w' : World} {L : Nat}
theorem nxW_infoR {p : Pa} {r : Int} (h : WS d FW w s) (hok : Ok s.ar) (hh : s.ar.hit r = some (i, p)) : Calls Tryz.prog 134 #[ptr d.A, .int .i64 r] w fun e w' => e = .returned (.int .i64 p.info) ∧ w = w' := by
  obtain ⟨FA, h1, h2, h3⟩ := h.ar
  obtain ⟨k1, k2, k3⟩ := hit_some hh
  exact info_yes h1 hok k1 k2 k3
theorem nxW_markR {p : Pa} {r : Int} (h : WS d FW w s) (hok : Ok s.ar) (hh : s.ar.hit r = some (i, p)) : Calls Tryz.prog 132 #[ptr d.A, .int .i64 r] w fun e w' => e = .returned (.bool p.mark) ∧ w = w' := by
  obtain ⟨FA, h1, h2, h3⟩ := h.ar
  obtain ⟨k1, k2, k3⟩ := hit_some hh
  exact mark_yes h1 hok k1 k2 k3
theorem nxW_stateR {x : Re} {m : Int} (h : WS d FW w s) (hl : s.rs.length ≤ 1000) (hh : rcAt s.rs m = some (i, x)) : Calls Tryz.prog 136 #[ptr d.R, .int .i64 m] w fun e w' => e = .returned (.int .u8 x.st) ∧ w = w' := by
  obtain ⟨FT, ⟨l, P, h1, h2⟩, -, -⟩ := h.rc
  obtain ⟨k1, k2⟩ := rcAt_some hh
  obtain ⟨y, y1, y2⟩ := it_at h2 k1
  have := recState_yes h1 y1 k2 (by rw [len_it h2]; omega)
  rw [← y2]
  exact this
theorem nxW_allR {x : Re} {m : Int} (h : WS d FW w s) (hl : s.rs.length ≤ 1000) (hh : rcAt s.rs m = some (i, x)) : Calls Tryz.prog 155 #[ptr d.R, .int .i64 m] w fun e w' => e = .returned (.bool x.all) ∧ w = w' := by
  obtain ⟨FT, ⟨l, P, h1, h2⟩, -, -⟩ := h.rc
  obtain ⟨k1, k2⟩ := rcAt_some hh
  obtain ⟨y, y1, y2⟩ := it_at h2 k1
  have := recAll_yes h1 y1 k2 (by rw [len_it h2]; omega)
  rw [← y2]
  exact this
theorem nxW_rmake {A B : Option Addr} {m c e : Nat} {r : Rc} (h : WS d FW w s) (hr : Sl w A m c r.ns) (hk : Sl w B m e r.is) (hkp : 0 ≤ r.kp) (hroom : s.rs.length < d.m) (hmo : d.m ≤ 65536) (hn : m ≤ 20) :
    Calls Tryz.prog 118 #[ptr d.R, rcv (.slice A m c) (.slice B m e) r] w fun e w' => e = .returned (.tuple #[.int .i64 ((s.rs.length : Int) + 1), .bool true]) ∧ NxW d FW w { s with rs := s.rs ++ [⟨r, 1, false⟩] } w' := by
  obtain ⟨FT, ⟨l, P, h1, h2⟩, -, h3⟩ := h.rc
  refine (recMake_yes h1 A B m c e r hr hk hkp (by rw [len_it h2]; exact hroom) hmo hn).mono ?_
  rintro e w' ⟨rfl, F', P', u, v, q1, q2, q3⟩
  refine ⟨by rw [len_it h2], h3 _ _ ⟨F', ⟨_, P', q1, ?_⟩, q2, q3⟩⟩
  rw [List.map_append, h2]
  rfl
/-- A block of the law's own has grown, ahead of its threads. -/
theorem ME.kept {g : Option Nat} (h : ME d R 0 T hs os s w) (hg : w.grownBy w' g) (hR : ∀ b, g = some b → R b) (hR' : ∀ b, R' b → R b ∨ (w.heap.size ≤ b ∧ b < w'.heap.size)) : ME d R' 0 T hs os s w' := by
  obtain ⟨FW, P, h⟩ := h
  have hb : ∀ b, b < w.heap.size → ¬ R b → w'.heap[b]? = w.heap[b]? := fun b e1 e2 => hg.block b e1 fun e => e2 (hR b e.symm)
  refine ⟨FW, P, h.ws.keep (fun b e => hb b (h.ws.lt b e) fun f => (h.rs b f).2 e) hg.size, fun b e => ?_, fun i hi => absurd hi (by omega), fun i j b hi => absurd hi (by omega), fun i hi => absurd hi (by omega)⟩
  rcases hR' b e with e | e
  · exact ⟨Nat.lt_of_lt_of_le (h.rs b e).1 hg.size, (h.rs b e).2⟩
  · exact ⟨e.2, fun f => by have := h.ws.lt b f; omega⟩
theorem ME.mono (h : ME d R 0 T hs os s w) (hR : ∀ b, R' b → R b) : ME d R' 0 T hs os s w := h.more (Below.refl _ w) (fun b e => .inl (hR b e)) (.inl rfl)
/-- A law's state: its own blocks X, what it was handed, the world, helpers. -/
structure MB (W : World) (X : Nat → Prop) (d : Wd) (n T : Nat) (hs : Nat → Hp) (os : Nat → Ts) (s : Sig) (w : World) : Prop where
  me : ME d (fun b => b < W.heap.size ∨ X b) n T hs os s w
  bel : Below W.heap.size W w
variable {W : World} {X X' : Nat → Prop}
theorem MB.kp (h : MB W X d n T hs os s w) {n' T' : Nat} {hs' : Nat → Hp} {os' : Nat → Ts} (h2 : ME d (fun b => b < W.heap.size ∨ X b) n' T' hs' os' s' w') (hk : Kp (fun b => b < W.heap.size ∨ X b) w w') : MB W X d n' T' hs' os' s' w' := ⟨h2, h.bel.trans (kp_below (hk.mono fun b e => .inl e))⟩
theorem MB.below (h : MB W X d n T hs os s w) (hb : Below w.heap.size w w') : MB W X d n T hs os s w' := ⟨h.me.below hb, h.bel.trans (hb.mono h.bel.size)⟩
theorem MB.more (h : MB W X d n T hs os s w) (hb : Below w.heap.size w w') (hX : ∀ b, X' b → X b ∨ (w.heap.size ≤ b ∧ b < w'.heap.size)) (hm : n = 0 ∨ ∀ b, X b → X' b) : MB W X' d n T hs os s w' := ⟨h.me.more hb (fun b e => e.elim (fun e => .inl (.inl e)) fun e => (hX b e).imp .inr id) (hm.imp id fun h b e => e.imp id (h b)), h.bel.trans (hb.mono h.bel.size)⟩
theorem MB.mono (h : MB W X d 0 T hs os s w) (hX : ∀ b, X' b → X b) : MB W X' d 0 T hs os s w := ⟨h.me.mono fun b e => e.imp id (hX b), h.bel⟩
theorem MB.kept {g : Option Nat} (h : MB W X d 0 T hs os s w) (hg : w.grownBy w' g) (hX : ∀ b, g = some b → X b ∧ W.heap.size ≤ b) (hX' : ∀ b, X' b → X b ∨ (w.heap.size ≤ b ∧ b < w'.heap.size)) : MB W X' d 0 T hs os s w' :=
  ⟨h.me.kept hg (fun b e => .inr (hX b e).1) (fun b e => e.elim (fun e => .inl (.inl e)) fun e => (hX' b e).imp .inr id), h.bel.trans ⟨hg.os, hg.tape, hg.output, hg.size, fun b e => hg.block b (Nat.lt_of_lt_of_le e h.bel.size) fun e2 => by have := (hX b e2.symm).2; omega⟩⟩
theorem MB.ws (h : MB W X d n T hs os s w) : ∃ FW, WS d FW w s := h.me.ws
theorem MB.cells (h : MB W X d n T hs os s w) : w.cell? ⟨d.W, 0, none⟩ = some (ptr d.A) ∧ w.cell? ⟨d.W, 1, none⟩ = some (ptr d.R) ∧ w.cell? ⟨d.W, 2, none⟩ = some (ptr d.E) ∧ w.cell? ⟨d.W, 3, none⟩ = some (.int .i64 d.a) ∧ w.cell? ⟨d.W, 4, none⟩ = some (.int .i64 d.b) ∧ w.cell? ⟨d.W, 5, none⟩ = some (.int .i64 d.en) := by
  obtain ⟨FW, h⟩ := h.ws; exact h.cells
theorem MB.nx {F : Nat} {args : Array Value} {v : Value} (h : MB W X d n T hs os s w) (hc : ∀ FW, WS d FW w s → Calls Tryz.prog F args w fun e w' => e = .returned v ∧ NxW d FW w s' w') (hl : n = 0 ∨ Le s s' := by first | exact .inl rfl | exact .inr (Le.rs rfl) | exact .inr (Le.refl _)) : Calls Tryz.prog F args w fun e w' => e = .returned v ∧ MB W X d n T hs os s' w' := by
  obtain ⟨⟨FW, P, hM⟩, hb⟩ := h
  refine (hc FW hM.ws).mono ?_
  rintro e w' ⟨rfl, hn⟩
  obtain ⟨k1, k2⟩ := hM.nx hn hl
  exact ⟨rfl, k1, hb.trans (kp_below (k2.mono fun b e => .inl e))⟩
theorem MB.lt (h : MB W X d n T hs os s w) : ∀ b, X b → b < w.heap.size := fun b e => h.me.lt b (.inr e)
/-- A law's slice, whose block is its own. -/
theorem Sl.keepX {A : Option Addr} {m q : Nat} {rs : List Int} (h : Sl w A m q rs) (hA : ∀ ad : Addr, A = some ad → X ad.block) (hk : ∀ b, X b → b < w.heap.size → w'.heap[b]? = w.heap[b]?) : Sl w' A m q rs := h.keepAt fun ad e hl => hk _ (hA ad e) hl
end
end Go.Proofs.YtcegianjpifnbaaGreat
