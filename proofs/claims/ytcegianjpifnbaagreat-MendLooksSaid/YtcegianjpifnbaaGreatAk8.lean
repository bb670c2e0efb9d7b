/-
  What New returns where its numbers may not be; what the laws' some returns; the laws' fixed fact.
-/
import Derived.Test.YtcegianjpifnbaaGreatEv8
import Derived.Lib.MinMax
namespace Go.Proofs.YtcegianjpifnbaaGreat
open Go.ChangeShapes Go.WideShapes Go.ChangeAt Go.RowKit
set_option linter.unusedVariables false
set_option linter.unusedSimpArgs false
set_option maxRecDepth 20000

section
variable {d : Wd} {FW R R' : Nat → Prop} {w w' w0 wr : World} {s : Sig} {a b t n r : Int}
/-- A world of a law's own: all that the law was handed stays as it is. -/
structure Ow (W : World) (d : Wd) (s : Sig) (wr : World) : Prop where
  idle : Idle d (fun b => b < W.heap.size) wr s
  below : Below W.heap.size W wr
theorem kp_below (h : Kp (fun b => b < w0.heap.size) w w') : Below w0.heap.size w w' := ⟨h.os, h.tape, h.output, h.size, fun b e => h.block b e⟩
theorem Ow.nx {W : World} {s' : Sig} (h : Ow W d s wr) (hk : ∀ FW, WS d FW wr s → NxW d FW wr s' w') : Ow W d s' w' := by
  obtain ⟨⟨FW, h1, h2⟩, hb⟩ := h
  obtain ⟨k1, k2⟩ := Idle.nx h1 h2 (hk FW h1)
  exact ⟨k1, hb.trans (kp_below k2)⟩
theorem Ow.bel {W : World} (h : Ow W d s wr) (hb : Below wr.heap.size wr w') : Ow W d s w' := ⟨h.idle.more hb (fun b e => .inl e), h.below.trans (hb.mono h.below.size)⟩
theorem Ow.cells {W : World} (h : Ow W d s wr) : wr.cell? ⟨d.W, 0, none⟩ = some (ptr d.A) ∧ wr.cell? ⟨d.W, 1, none⟩ = some (ptr d.R) ∧ wr.cell? ⟨d.W, 2, none⟩ = some (ptr d.E) ∧ wr.cell? ⟨d.W, 3, none⟩ = some (.int .i64 d.a) ∧ wr.cell? ⟨d.W, 4, none⟩ = some (.int .i64 d.b) ∧ wr.cell? ⟨d.W, 5, none⟩ = some (.int .i64 d.en) := by
  obtain ⟨⟨FW, h1, h2⟩, hb⟩ := h; exact h1.cells
theorem Ow.new {W : World} {L m rm : Nat} {e : Ending} {a b : Int} (hb : Below W.heap.size W wr) (h : NewW wr a b m L rm e w') : ∃ d, e = .returned (.tuple #[ptr d.W, .int .i64 0]) ∧ d.a = a ∧ d.b = b ∧ d.en = Go.Proofs.YtcegianjpifnbaaGreat.mk 1 1 ∧ d.m = rm ∧ Ow W d (newSig m L) w' := by
  obtain ⟨d, FW, rfl, h1, h2, h3, h4, h5, h6, h7⟩ := h
  refine ⟨d, rfl, h4, h5, h6, h7, ⟨FW, h1, fun b e => ⟨?_, fun f => ?_⟩⟩, hb.trans (h3.mono hb.size)⟩
  · have := hb.size; have := h3.size; omega
  · have := h2 b f; have := hb.size; omega
/-- Behind Alone. -/
theorem Ow.alone {α : Type} {W : World} {out : α → List Int} {q : α × Sig × Nat} {e : Ending} (hb : Below W.heap.size W wr) (h : AloneP d (fun b => b < W.heap.size) wr out q e w') : ∃ A n c, e = .returned (.tuple #[.slice A n c, .int .i64 ((max q.2.2 1 : Nat) : Int), .bool true]) ∧ Row 2 wr.heap.size w' (.slice A n c) (out q.1) ∧ Ow W d q.2.1 w' ∧ Idle d (fun b => b < W.heap.size ∨ (Value.slice A n c).ownBlock = some b) w' q.2.1 ∧ Kp (fun b => b < W.heap.size) wr w' := by
  obtain ⟨A, n, c, rfl, h1, h2, h3⟩ := h
  exact ⟨A, n, c, rfl, h1, ⟨h2.mono fun b e => .inl e, hb.trans (kp_below h3)⟩, h2, h3⟩

set_option maxHeartbeats 1000000 in
theorem new_bad (w : World) (h : ¬ ((2 ≤ a ∧ a ≤ 32) ∧ (2 * a - 1 ≤ b ∧ b ≤ 32) ∧ (1 ≤ t ∧ t ≤ 64) ∧ (2 ≤ n ∧ n ≤ 65536) ∧ (0 ≤ r ∧ r ≤ 65536))) :
    Calls Tryz.prog 20 #[.int .i64 a, .int .i64 b, .int .i64 t, .int .i64 n, .int .i64 r] w fun e w' => e = .returned (.tuple #[nilp, .int .i64 2]) ∧ w = w' := by
  by_cases ha : 2 ≤ a ∧ a ≤ 32
  case neg =>
    have W1 := Lib.hid (within_no ha)
    clear h ha
    go_enter Tryz.func20, Tryz.ntmps20
    go_wp2_with fail
    refine (W1.out _).mono ?_
    rintro e w1 ⟨rfl, rfl⟩
    go_wp2
    go_ret2
    exact ⟨rfl, rfl⟩
  have m1 : IntKind.i64.wrap (2 * a) = 2 * a := IntWalk.i64_in _ (by omega)
  have m2 : IntKind.i64.wrap (2 * a - 1) = 2 * a - 1 := IntWalk.i64_in _ (by omega)
  have W1 := Lib.hid (within_yes ha)
  by_cases hb : 2 * a - 1 ≤ b ∧ b ≤ 32
  case neg =>
    have W2 := Lib.hid (within_no hb)
    clear h ha hb
    go_enter Tryz.func20, Tryz.ntmps20
    go_wp2_with fail
    refine (W1.out _).mono ?_
    rintro e w1 ⟨rfl, rfl⟩
    go_wp2_with fail
    refine (W2.out _).mono ?_
    rintro e w1 ⟨rfl, rfl⟩
    go_wp2
    go_ret2
    exact ⟨rfl, rfl⟩
  have W2 := Lib.hid (within_yes hb)
  by_cases ht : 1 ≤ t ∧ t ≤ 64
  case neg =>
    have W3 := Lib.hid (within_no ht)
    clear h ha hb ht
    go_enter Tryz.func20, Tryz.ntmps20
    go_wp2_with fail
    refine (W1.out _).mono ?_
    rintro e w1 ⟨rfl, rfl⟩
    go_wp2_with fail
    refine (W2.out _).mono ?_
    rintro e w1 ⟨rfl, rfl⟩
    go_wp2_with fail
    refine (W3.out _).mono ?_
    rintro e w1 ⟨rfl, rfl⟩
    go_wp2
    go_ret2
    exact ⟨rfl, rfl⟩
  have W3 := Lib.hid (within_yes ht)
  by_cases hn : 2 ≤ n ∧ n ≤ 65536
  case neg =>
    have W4 := Lib.hid (within_no hn)
    clear h ha hb ht hn
    go_enter Tryz.func20, Tryz.ntmps20
    go_wp2_with fail
    refine (W1.out _).mono ?_
    rintro e w1 ⟨rfl, rfl⟩
    go_wp2_with fail
    refine (W2.out _).mono ?_
    rintro e w1 ⟨rfl, rfl⟩
    go_wp2_with fail
    refine (W3.out _).mono ?_
    rintro e w1 ⟨rfl, rfl⟩
    go_wp2_with fail
    refine (W4.out _).mono ?_
    rintro e w1 ⟨rfl, rfl⟩
    go_wp2
    go_ret2
    exact ⟨rfl, rfl⟩
  have W4 := Lib.hid (within_yes hn)
  have W5 := Lib.hid (within_no (n := r) (l := 0) (m := 65536) (fun e => h ⟨ha, hb, ht, hn, e⟩))
  clear h ha hb ht hn
  go_enter Tryz.func20, Tryz.ntmps20
  go_wp2_with fail
  refine (W1.out _).mono ?_
  rintro e w1 ⟨rfl, rfl⟩
  go_wp2_with fail
  refine (W2.out _).mono ?_
  rintro e w1 ⟨rfl, rfl⟩
  go_wp2_with fail
  refine (W3.out _).mono ?_
  rintro e w1 ⟨rfl, rfl⟩
  go_wp2_with fail
  refine (W4.out _).mono ?_
  rintro e w1 ⟨rfl, rfl⟩
  go_wp2_with fail
  refine (W5.out _).mono ?_
  rintro e w1 ⟨rfl, rfl⟩
  go_wp2
  go_ret2
  exact ⟨rfl, rfl⟩
theorem awake_ev : (ev (tBegin 1000 1 0) (newSig 9 1)).2.2 = 6 ∧ (ev (tBegin 1000 1 0) (newSig 9 1)).2.1.now = 1 ∧ saidOf (ev (tBegin 1000 1 0) (newSig 9 1)).2.1.S 0 = 0 ∧ (ev (tBegin 1000 1 0) (newSig 9 1)).2.1.S.length = 1 := by
  have e : ev (tBegin 1000 1 0) (newSig 9 1) = ((), bgS 1 0 (newSig 9 1), bgN 1 0 (newSig 9 1) + 1) := ev_begin0 999 1 0 _ (new_empty 9 1 0)
  rw [e]
  exact ⟨rfl, rfl, rfl, rfl⟩
end
end Go.Proofs.YtcegianjpifnbaaGreat
