/-
  A thread of Make beside the document's runner, each with a cell of its own.
-/
import Derived.Test.YtbjaojcffhkahaaTs6
namespace Go.Proofs.Ytbjaojcffhkahaa
open Go.ChangeShapes Go.WideShapes Go.ChangeAt Go.RowKit
set_option linter.unusedVariables false
set_option linter.unusedSimpArgs false
set_option maxRecDepth 20000

/-- A thread of Make behind k Steps, its cell; a runner, and its cell. -/
structure DS (w0 : World) (a ca r cb : Nat) (A : Option Addr) (n cp k : Nat) (zs : List Int) (N : Int) (l : List Int) (fin : Bool) (zs2 : List Int) (N2 : Int) (l2 : List Int) (FF FC FR FD : Nat → Prop) (wr : World) : Prop where
  ts : TS w0 a ca A n cp k zs N l fin FF FC wr
  rn : ∃ R, Rn FR wr r A n cp (pos zs2) zs2 R
  cb : ∃ L, Ce FD wr cb N2 l2 L
  d1 : ∀ b, FF b ∨ FC b → ¬ (FR b ∨ FD b)
  d2 : ∀ b, FR b → ¬ FD b
  ge : ∀ b, FR b ∨ FD b → w0.heap.size ≤ b
section
variable {FF FC FR FD G : Nat → Prop} {w0 w w' wr : World} {a ca r cb n cp k : Nat} {zs l zs2 l2 : List Int} {N N2 : Int} {A : Option Addr} {pr : List Tc} {fin : Bool}
theorem DS.only (h : DS w0 a ca r cb A n cp k zs N l fin zs2 N2 l2 FF FC FR FD w) (ho : Only G w w') (hd : ∀ b, (FF b ∨ FC b) ∨ (FR b ∨ FD b) → ¬ G b) : DS w0 a ca r cb A n cp k zs N l fin zs2 N2 l2 FF FC FR FD w' := by
  obtain ⟨R, hR⟩ := h.rn
  obtain ⟨L, hL⟩ := h.cb
  exact ⟨h.ts.only ho fun b e => hd b (.inl e), ⟨R, hR.only ho fun b e => hd b (.inr (.inl e))⟩, ⟨L, hL.only ho fun b e => hd b (.inr (.inr e))⟩, h.d1, h.d2, h.ge⟩
theorem DS.below (h : DS w0 a ca r cb A n cp k zs N l fin zs2 N2 l2 FF FC FR FD w) (hb : Below w.heap.size w w') : DS w0 a ca r cb A n cp k zs N l fin zs2 N2 l2 FF FC FR FD w' := h.only (G := fun _ => False) (Only.of_below _ hb) (fun _ _ e => e)
theorem DS.lt (h : DS w0 a ca r cb A n cp k zs N l fin zs2 N2 l2 FF FC FR FD w) (b : Nat) (e : (FF b ∨ FC b) ∨ (FR b ∨ FD b)) : b < w.heap.size := by
  obtain ⟨R, hR⟩ := h.rn
  obtain ⟨L, hL⟩ := h.cb
  rcases e with e | e | e
  · exact h.ts.lt b e
  · exact hR.lt b e
  · exact hL.lt b e
theorem DS.geF (h : DS w0 a ca r cb A n cp k zs N l fin zs2 N2 l2 FF FC FR FD w) (b : Nat) (e : (FF b ∨ FC b) ∨ (FR b ∨ FD b)) : w0.heap.size ≤ b := e.elim (h.ts.geF b) (h.ge b)
/-- A Step of the thread. -/
theorem DS.step (h : DS w0 a ca r cb A n cp k zs N l fin zs2 N2 l2 FF FC FR FD w) (hn : n ≤ 100) (hpg : Pg w0.heap.size w A n pr) :
    Calls Try.prog 12 #[ptr a] w fun e w' => e = .returned (.bool (decide (n ≤ pos (nxt pr zs N l).1))) ∧ ∃ FF' FC', DS w0 a ca r cb A n cp (k + 1) (nxt pr zs N l).1 (nxt pr zs N l).2.1 (nxt pr zs N l).2.2 (decide (n ≤ pos (nxt pr zs N l).1)) zs2 N2 l2 FF' FC' FR FD w' ∧ Only (fun b => FF b ∨ FC b) w w' ∧ (∀ b, FF' b ∨ FC' b → (FF b ∨ FC b) ∨ w.heap.size ≤ b) := by
  refine (h.ts.step hn hpg).mono ?_
  rintro e w' ⟨rfl, FF', FC', h1, o1, s1⟩
  obtain ⟨R, hR⟩ := h.rn
  obtain ⟨L, hL⟩ := h.cb
  have hd1 : ∀ b, FF' b ∨ FC' b → ¬ (FR b ∨ FD b) := fun b e e2 => by
    rcases s1 b e with e3 | e3
    · exact h.d1 b e3 e2
    · have := h.lt b (.inr e2); omega
  exact ⟨rfl, FF', FC', ⟨h1, ⟨R, hR.only o1 fun b e e2 => h.d1 b e2 (.inl e)⟩, ⟨L, hL.only o1 fun b e e2 => h.d1 b e2 (.inr e)⟩, hd1, h.d2, h.ge⟩, o1, s1⟩
/-- Next of the runner. -/
theorem DS.next (h : DS w0 a ca r cb A n cp k zs N l fin zs2 N2 l2 FF FC FR FD w) (hn : n ≤ 100) (hz : zs2.length ≤ n + 1) (hl : l2.length ≤ 1000) (hpg : Pg w0.heap.size w A n pr) :
    Calls Try.prog 13 #[ptr r, ptr cb] w fun e w' => e = .returned (.bool (decide (n ≤ pos (nxt pr zs2 N2 l2).1))) ∧ ∃ FR' FD', DS w0 a ca r cb A n cp k zs N l fin (nxt pr zs2 N2 l2).1 (nxt pr zs2 N2 l2).2.1 (nxt pr zs2 N2 l2).2.2 FF FC FR' FD' w' ∧ Only (fun b => FR b ∨ FD b) w w' ∧ (∀ b, FR' b ∨ FD' b → (FR b ∨ FD b) ∨ w.heap.size ≤ b) := by
  obtain ⟨R, hR⟩ := h.rn
  obtain ⟨L, hL⟩ := h.cb
  refine (next_walk hR rfl hL (by omega) (by omega) (by omega) h.d2 hpg (fun b e => h.ge b (.inr e)) (fun b e => h.ge b (.inl e))).mono ?_
  rintro e w' ⟨rfl, FR', FD', L', R', hx⟩
  have s1 : ∀ b, FR' b ∨ FD' b → (FR b ∨ FD b) ∨ w.heap.size ≤ b := fun b e => by
    rcases e with e | e
    · exact (hx.newF b e).imp .inl id
    · exact (hx.newC b e).imp .inr id
  refine ⟨rfl, FR', FD', ⟨h.ts.only hx.only fun b e => h.d1 b e, ⟨R', hx.rn⟩, ⟨L', hx.ce⟩, fun b e e2 => ?_, hx.dis, fun b e => ?_⟩, hx.only, s1⟩
  · rcases s1 b e2 with e3 | e3
    · exact h.d1 b e e3
    · have := h.lt b (.inl e); omega
  · rcases s1 b e with e3 | e3
    · exact h.ge b e3
    · exact Nat.le_trans h.ts.size e3
theorem TS.more (h : TS w0 a ca A n cp k zs N l true FF FC w) (k' : Nat) : TS w0 a ca A n cp k' zs N l true FF FC w := ⟨h.mt, h.ce, h.dis, h.ge, h.log, fun e => (by cases e), h.bd, h.size⟩
/-- Two cells, a thread of Make of the one, a runner beside the other. -/
theorem DS.new (w1 : World) (N : Int) (hB : w0.heap.size ≤ w1.heap.size) {A : Option Addr} {n cp : Nat} : Calls Try.prog 11 #[ptr w1.heap.size, .slice A n cp] ((w1.alloc (.cells #[.int .i64 N, .slice none 0 0] ceT)).alloc (.cells #[.int .i64 N, .slice none 0 0] ceT)) fun e w' => ∃ a, e = .returned (ptr a) ∧ ∃ FF FC FR FD, DS w0 a w1.heap.size w'.heap.size (w1.heap.size + 1) A n cp 0 [] N [] false [] N [] FF FC FR FD (w'.alloc (.cells #[.slice A n cp, .int .i64 0, .slice none 0 0] rnT)) ∧ Below w1.heap.size w1 w' := by
  have hz : ((w1.alloc (.cells #[.int .i64 N, .slice none 0 0] ceT)).alloc (.cells #[.int .i64 N, .slice none 0 0] ceT)).heap.size = w1.heap.size + 2 := by simp
  refine (make_walk A n cp w1.heap.size w0.heap.size _ (by omega)).mono ?_
  rintro e w' ⟨a, rfl, hm, hb⟩
  have hc1 := ((ce_new w1 N).below (below_new _ (.cells #[.int .i64 N, .slice none 0 0] ceT))).below hb
  have hc2 := (ce_new (w1.alloc (.cells #[.int .i64 N, .slice none 0 0] ceT)) N).below hb
  have hsz := hb.size
  have bn := below_new w' (.cells #[.slice A n cp, .int .i64 0, .slice none 0 0] rnT)
  have hz1 : (w1.alloc (.cells #[.int .i64 N, .slice none 0 0] ceT)).heap.size = w1.heap.size + 1 := by simp
  rw [hz1] at hc2
  refine ⟨a, rfl, _, _, _, _, ⟨⟨hm.only (G := fun _ => False) (Only.of_below _ bn) (fun _ _ e => e), ⟨_, hc1.below bn⟩, ?_, ?_, rfl, fun _ => rfl, by simp [pos], ?_⟩, ⟨_, rn_new w' A n cp⟩, ⟨_, hc2.below bn⟩, ?_, ?_, ?_⟩, (below_new w1 _).trans ((below_new _ _).mono (by simp) |>.trans (hb.mono (by omega)))⟩
  · intro b e e2; have := e.1; subst e2; omega
  · intro b e; subst e; exact hB
  · have := bn.size; omega
  · intro b e e2
    rcases e with e | e
    · have h1 := e.1
      have h2 := e.2
      rcases e2 with e2 | e2 <;> omega
    · rcases e2 with e2 | e2 <;> omega
  · intro b e e2; omega
  · intro b e; rcases e with e | e <;> omega
end
end Go.Proofs.Ytbjaojcffhkahaa
