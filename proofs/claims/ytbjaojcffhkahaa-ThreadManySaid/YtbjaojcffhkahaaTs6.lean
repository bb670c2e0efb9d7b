/-
  A thread of Make and its cell, Step by Step, as the laws have them.
-/
import Derived.Test.YtbjaojcffhkahaaAwake6
import Derived.Test.YtbjaojcffhkahaaRun6
namespace Go.Proofs.Ytbjaojcffhkahaa
open Go.ChangeShapes Go.WideShapes Go.ChangeAt Go.RowKit
set_option linter.unusedVariables false
set_option linter.unusedSimpArgs false
set_option maxRecDepth 20000

/-- As takeT, the slot that it writes named. -/
theorem takeD {P : Program} {ops : Array Oper} {Q : Exit → Act → World → Prop} {md : Region.Mode} {C : World → Prop} {st : Nat → Bool} {listed : Array Bool} (i d : Nat) {oi : Oper} {v : Value} {n : Nat} {a : Act} {w : World} (hi : ops[i]? = some oi) (hd : oi.dst = some d)
    (hs : Region.noSelect ops = true) (hf : Region.free md ops listed i = true) (hr : (Region.ready md ops listed).contains i = true) (hwt : waits md ops st i = true)
    (hQ : ∀ c (a : Act) t w, Q (.panic c) { a with tmps := t } w → Q (.panic c) a w) (hC : C w) (hw : Region.wanted oi (yielded ops a.tmps) = true) (hy : ∀ w, C w → (execOp a.eval oi).run P w = .ok (.value v) w)
    (h : anyT P md ops Q C st n (listed.setIfInBounds i true) { a with tmps := a.tmps.setIfInBounds d v } w) : anyT P md ops Q C st (n + 1) listed a w :=
  takeT hi hs hf hr hwt (fun c a w h => by rw [hd] at h; exact hQ c a _ w h) hC hw hy (by rw [hd]; exact h)
theorem nxt_log {pr : List Tc} {zs l : List Int} {N : Int} (h : l.length = 3 * zs.length) : (nxt pr zs N l).2.2.length = 3 * (nxt pr zs N l).1.length := by
  unfold nxt
  split
  · simp [Tc.log, h]; omega
  · exact h
theorem nxt_pos {pr : List Tc} {zs l : List Int} {N : Int} (h : pos zs ≤ pr.length + 1) : pos (nxt pr zs N l).1 ≤ pr.length + 1 := by
  unfold nxt
  split
  · rename_i t ht
    have := (List.getElem?_eq_some_iff.1 ht).1
    simp only [pos_snoc]
    split <;> omega
  · exact h
theorem nxt_cnt {pr : List Tc} {zs l : List Int} {N : Int} (h : pos (nxt pr zs N l).1 < pr.length) : (nxt pr zs N l).1.length = zs.length + 1 ∧ pos zs < pr.length := by
  by_cases hp : pos zs < pr.length
  · rw [nxt_some (List.getElem?_eq_getElem hp)]
    exact ⟨by simp, hp⟩
  · rw [nxt_none (by omega)] at h
    exact absurd h hp

/-- A thread of Make behind k Steps, and its cell: what it was told, the cell's number and its log, whether it is at its end. -/
structure TS (w0 : World) (a c : Nat) (A : Option Addr) (n cp k : Nat) (zs : List Int) (N : Int) (l : List Int) (fin : Bool) (FF FC : Nat → Prop) (wr : World) : Prop where
  mt : MT FF w0.heap.size wr a c A n cp zs fin
  ce : ∃ L, Ce FC wr c N l L
  dis : ∀ b, FF b → ¬ FC b
  ge : ∀ b, FC b → w0.heap.size ≤ b
  log : l.length = 3 * zs.length
  cnt : fin = false → zs.length = k
  bd : pos zs ≤ n + 1
  size : w0.heap.size ≤ wr.heap.size
section
variable {FF FC G : Nat → Prop} {w0 w w' wr : World} {a c n cp k : Nat} {zs l : List Int} {N : Int} {A : Option Addr} {pr : List Tc} {fin : Bool}
theorem TS.only (h : TS w0 a c A n cp k zs N l fin FF FC w) (ho : Only G w w') (hd : ∀ b, FF b ∨ FC b → ¬ G b) : TS w0 a c A n cp k zs N l fin FF FC w' := by
  obtain ⟨L, hc⟩ := h.ce
  exact ⟨h.mt.only ho fun b e => hd b (.inl e), ⟨L, hc.only ho fun b e => hd b (.inr e)⟩, h.dis, h.ge, h.log, h.cnt, h.bd, Nat.le_trans h.size ho.size⟩
theorem TS.below (h : TS w0 a c A n cp k zs N l fin FF FC w) (hb : Below w.heap.size w w') : TS w0 a c A n cp k zs N l fin FF FC w' := h.only (G := fun _ => False) (Only.of_below _ hb) (fun _ _ e => e)
theorem TS.lt (h : TS w0 a c A n cp k zs N l fin FF FC w) (b : Nat) (e : FF b ∨ FC b) : b < w.heap.size := by
  obtain ⟨L, hc⟩ := h.ce
  exact e.elim (h.mt.lt b) (hc.lt b)
theorem TS.geF (h : TS w0 a c A n cp k zs N l fin FF FC w) (b : Nat) (e : FF b ∨ FC b) : w0.heap.size ≤ b := e.elim (h.mt.ge b) (h.ge b)
theorem TS.short (h : TS w0 a c A n cp k zs N l fin FF FC w) : zs.length ≤ n + 1 := Nat.le_trans (pos_len zs) h.bd
theorem TS.step (h : TS w0 a c A n cp k zs N l fin FF FC w) (hn : n ≤ 100) (hpg : Pg w0.heap.size w A n pr) :
    Calls Try.prog 12 #[ptr a] w fun e w' => e = .returned (.bool (decide (n ≤ pos (nxt pr zs N l).1))) ∧ ∃ FF' FC', TS w0 a c A n cp (k + 1) (nxt pr zs N l).1 (nxt pr zs N l).2.1 (nxt pr zs N l).2.2 (decide (n ≤ pos (nxt pr zs N l).1)) FF' FC' w' ∧ Only (fun b => FF b ∨ FC b) w w' ∧ ∀ b, FF' b ∨ FC' b → (FF b ∨ FC b) ∨ w.heap.size ≤ b := by
  obtain ⟨L, hc⟩ := h.ce
  have h1 := h.short
  have hlen := hpg.len
  refine (step_make h.mt hc (by have := h.log; omega) (by omega) (by omega) hpg h.dis h.ge h.size).mono ?_
  rintro e w' ⟨rfl, FF', FC', L', hs⟩
  refine ⟨rfl, FF', FC', ⟨hs.mt, ⟨L', hs.ce⟩, hs.dis, fun b e => (hs.newC b e).elim (h.ge b) (Nat.le_trans h.size), nxt_log h.log, fun e => ?_, by rw [hlen]; exact nxt_pos (by rw [← hlen]; exact h.bd), Nat.le_trans h.size hs.only.size⟩, hs.only, fun b e => ?_⟩
  · have e1 : pos (nxt pr zs N l).1 < pr.length := by
      have := of_decide_eq_false e
      omega
    obtain ⟨e2, e3⟩ := nxt_cnt e1
    rw [e2]
    congr 1
    refine h.cnt ?_
    obtain ⟨F, Bp, Bc, T, O, os, wk, told, k', _, ⟨hf, _⟩ | ⟨hf, _, _, _, hle⟩, _⟩ := h.mt.ex
    · exact hf
    · omega
  · rcases e with e | e
    · exact (hs.newF b e).imp .inl id
    · exact (hs.newC b e).imp .inr id
/-- Behind one Step more than there are touches it is at its end. -/
theorem TS.ends (h : TS w0 a c A n cp k zs N l fin FF FC w) (hk : n < k) : fin = true := by
  cases fin with
  | true => rfl
  | false =>
    have h1 := h.cnt rfl
    obtain ⟨F, Bp, Bc, T, O, os, wk, told, k', _, ⟨_, _, _, _, _, h2⟩ | ⟨hf, _⟩, _⟩ := h.mt.ex
    · rcases h2 with e | e
      · subst e; simp at h1; omega
      · have := pos_len zs; omega
    · cases hf
theorem TS.fin_pos (h : TS w0 a c A n cp k zs N l true FF FC w) : n ≤ pos zs := by
  obtain ⟨F, Bp, Bc, T, O, os, wk, told, k', _, ⟨hf, _⟩ | ⟨_, _, _, _, h2⟩, _⟩ := h.mt.ex
  · cases hf
  · exact h2
theorem TS.stay (h : TS w0 a c A n cp k zs N l true FF FC w) : Calls Try.prog 12 #[ptr a] w fun e w' => e = .returned (.bool true) ∧ w = w' := by
  obtain ⟨F, Bp, Bc, T, O, os, wk, told, k', h1, ⟨hf, _⟩ | ⟨_, rfl, _, _, h2⟩, _⟩ := h.mt.ex
  · cases hf
  · exact step_done h1
/-- A cell and a thread of Make, new. -/
theorem TS.new (w1 : World) (N : Int) (hB : w0.heap.size ≤ w1.heap.size) {A : Option Addr} {n cp : Nat} : Calls Try.prog 11 #[ptr w1.heap.size, .slice A n cp] (w1.alloc (.cells #[.int .i64 N, .slice none 0 0] ceT)) fun e w' => ∃ a FF FC, e = .returned (ptr a) ∧ TS w0 a w1.heap.size A n cp 0 [] N [] false FF FC w' ∧ Below w1.heap.size w1 w' ∧ ∀ b, FF b ∨ FC b → w1.heap.size ≤ b := by
  have hz : (w1.alloc (.cells #[.int .i64 N, .slice none 0 0] ceT)).heap.size = w1.heap.size + 1 := by simp
  refine (make_walk A n cp w1.heap.size w0.heap.size _ (by omega)).mono ?_
  rintro e w' ⟨a, rfl, hm, hb⟩
  have hc := (ce_new w1 N).below hb
  refine ⟨a, _, _, rfl, ⟨hm, ⟨_, hc⟩, fun b e e2 => ?_, fun b e => ?_, rfl, fun _ => rfl, by simp [pos], ?_⟩, (below_new w1 _).trans (hb.mono (by omega)), fun b e => ?_⟩
  · have := e.1; subst e2; omega
  · subst e; exact hB
  · have := hb.size; omega
  · rcases e with e | e
    · have := e.1; omega
    · subst e; exact Nat.le_refl _
end
end Go.Proofs.Ytbjaojcffhkahaa
