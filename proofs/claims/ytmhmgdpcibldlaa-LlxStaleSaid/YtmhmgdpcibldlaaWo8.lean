/-
  What all share in memory, beside a thread that is gone through: what a touch within work comes to (told again, done now, or left to a later Step).
-/
import Derived.Test.YtmhmgdpcibldlaaTr8
import Derived.Test.YtmhmgdpcibldlaaPd
namespace Go.Proofs.Ytmhmgdpcibldlaa
open Go.ChangeShapes Go.WideShapes Go.ChangeAt Go.RowKit
set_option linter.unusedVariables false
set_option linter.unusedSimpArgs false
set_option maxRecDepth 20000

abbrev woT : TypeId := 36
abbrev tbT : TypeId := 112
/-- Where a world lies: itself, its arena, records, epochs; its numbers. -/
structure Wd where
  W : Nat
  A : Nat
  R : Nat
  E : Nat
  a : Int
  b : Int
  en : Int
  m : Nat
def It.re (x : It) : Re := ⟨x.rc, x.st, x.all⟩
/-- A table of records, as plain data. -/
def TbS (F : Nat → Prop) (w : World) (a m : Nat) (rs : List Re) : Prop := ∃ l P, Tb F w a m l P ∧ l.map It.re = rs
/-- Behind a call: the table is so, and nothing else has changed. -/
def NxT (F : Nat → Prop) (w : World) (a m : Nat) (rs : List Re) (w' : World) : Prop := ∃ F', TbS F' w' a m rs ∧ Only F w w' ∧ ∀ b, F' b → F b ∨ w.heap.size ≤ b
/-- A world in memory: FW are its blocks. -/
structure WS (d : Wd) (FW : Nat → Prop) (w : World) (s : Sig) : Prop where
  head : w.heap[d.W]? = some (.cells #[ptr d.A, ptr d.R, ptr d.E, .int .i64 d.a, .int .i64 d.b, .int .i64 d.en] woT (0, 0))
  parts : ∃ FA FE FT, Arn false FA w d.A s.ar ∧ EpS FE w d.E s.now s.S ∧ TbS FT w d.R d.m s.rs ∧ (∀ b, FA b → ¬ FE b) ∧ (∀ b, FA b → ¬ FT b) ∧ (∀ b, FE b → ¬ FT b) ∧ (∀ b, FW b ↔ FA b ∨ FE b ∨ FT b ∨ b = d.W) ∧ ¬ FA d.W ∧ ¬ FE d.W ∧ ¬ FT d.W
/-- Behind a call: the world is so, and nothing else has changed. -/
def NxW (d : Wd) (FW : Nat → Prop) (w : World) (s : Sig) (w' : World) : Prop := ∃ FW', WS d FW' w' s ∧ Only FW w w' ∧ ∀ b, FW' b → FW b ∨ w.heap.size ≤ b
section
variable {d : Wd} {FW G : Nat → Prop} {w w' w2 : World} {s s' : Sig}
theorem Arn.keep {F : Nat → Prop} {a : Nat} {S : As} (h : Arn false F w a S) (hb : ∀ b, F b → w'.heap[b]? = w.heap[b]?) (hs : w.heap.size ≤ w'.heap.size) : Arn false F w' a S := by
  obtain ⟨l, P, Q, h⟩ := h; exact ⟨l, P, Q, h.keep hb hs⟩
theorem EpS.keep {F : Nat → Prop} {a : Nat} {now : Int} {S : List Tq} (h : EpS F w a now S) (hb : ∀ b, F b → w'.heap[b]? = w.heap[b]?) (hs : w.heap.size ≤ w'.heap.size) : EpS F w' a now S := by
  obtain ⟨l, T, h, e⟩ := h; exact ⟨l, T, h.keep hb hs, e⟩
theorem TbS.keep {F : Nat → Prop} {a m : Nat} {rs : List Re} (h : TbS F w a m rs) (hb : ∀ b, F b → w'.heap[b]? = w.heap[b]?) (hs : w.heap.size ≤ w'.heap.size) : TbS F w' a m rs := by
  obtain ⟨l, P, h, e⟩ := h; exact ⟨l, P, h.keep hb hs, e⟩
theorem TbS.lt {F : Nat → Prop} {a m : Nat} {rs : List Re} (h : TbS F w a m rs) : ∀ b, F b → b < w.heap.size := by
  obtain ⟨l, P, h, e⟩ := h; exact h.its.lt
theorem TbS.only {F G : Nat → Prop} {a m : Nat} {rs : List Re} (h : TbS F w a m rs) (hb : Only G w w') (hd : ∀ b, F b → ¬ G b) : TbS F w' a m rs := h.keep (fun b hF => hb.block b (h.lt b hF) (hd b hF)) hb.size
theorem WS.fW (h : WS d FW w s) : FW d.W := by obtain ⟨FA, FE, FT, _, _, _, _, _, _, hF, _⟩ := h.parts; exact (hF _).2 (.inr (.inr (.inr rfl)))
theorem WS.lt (h : WS d FW w s) : ∀ b, FW b → b < w.heap.size := by
  obtain ⟨FA, FE, FT, h1, h2, h3, _, _, _, hF, _⟩ := h.parts
  intro b e
  rcases (hF b).1 e with e | e | e | rfl
  · exact h1.lt b e
  · exact h2.lt b e
  · exact h3.lt b e
  · exact (Array.getElem?_eq_some_iff.1 h.head).1
theorem WS.keep (h : WS d FW w s) (hb : ∀ b, FW b → w'.heap[b]? = w.heap[b]?) (hs : w.heap.size ≤ w'.heap.size) : WS d FW w' s := by
  obtain ⟨FA, FE, FT, h1, h2, h3, h4, h5, h6, hF, h7⟩ := h.parts
  exact ⟨(hb _ h.fW).trans h.head, FA, FE, FT, h1.keep (fun b e => hb b ((hF b).2 (.inl e))) hs, h2.keep (fun b e => hb b ((hF b).2 (.inr (.inl e)))) hs, h3.keep (fun b e => hb b ((hF b).2 (.inr (.inr (.inl e))))) hs, h4, h5, h6, hF, h7⟩
theorem WS.only (h : WS d FW w s) (hb : Only G w w') (hd : ∀ b, FW b → ¬ G b) : WS d FW w' s := h.keep (fun b e => hb.block b (h.lt b e) (hd b e)) hb.size
theorem WS.below (h : WS d FW w s) (hb : Below w.heap.size w w') : WS d FW w' s := h.keep (fun b e => hb.block b (h.lt b e)) hb.size
theorem WS.cells (h : WS d FW w s) : w.cell? ⟨d.W, 0, none⟩ = some (ptr d.A) ∧ w.cell? ⟨d.W, 1, none⟩ = some (ptr d.R) ∧ w.cell? ⟨d.W, 2, none⟩ = some (ptr d.E) ∧ w.cell? ⟨d.W, 3, none⟩ = some (.int .i64 d.a) ∧ w.cell? ⟨d.W, 4, none⟩ = some (.int .i64 d.b) ∧ w.cell? ⟨d.W, 5, none⟩ = some (.int .i64 d.en) := by
  refine ⟨?_, ?_, ?_, ?_, ?_, ?_⟩ <;> (rw [cell_of_row w d.W _ _ _ (0, 0) h.head]; rfl)
/-- Its arena, and what a call of the arena makes of the world. -/
theorem WS.ar (h : WS d FW w s) : ∃ FA, Arn false FA w d.A s.ar ∧ (∀ b, FA b → FW b) ∧ ∀ S' w', Nx false FA w d.A S' w' → NxW d FW w { s with ar := S' } w' := by
  obtain ⟨FA, FE, FT, h1, h2, h3, n1, n2, n3, hF, m1, m2, m3⟩ := h.parts
  refine ⟨FA, h1, fun b e => (hF b).2 (.inl e), ?_⟩
  rintro S' w' ⟨F', k1, k2, k3⟩
  have hlW := (Array.getElem?_eq_some_iff.1 h.head).1
  refine ⟨fun b => F' b ∨ FE b ∨ FT b ∨ b = d.W, ⟨(k2.block _ hlW m1).trans h.head, F', FE, FT, k1, h2.only k2 (fun b e e' => n1 b e' e), h3.only k2 (fun b e e' => n2 b e' e), ?_, ?_, n3, fun _ => Iff.rfl, ?_, m2, m3⟩, k2.mono fun b e => (hF b).2 (.inl e), ?_⟩
  · intro b e e'
    rcases k3 b e with e | e
    · exact n1 b e e'
    · have := h2.lt b e'; omega
  · intro b e e'
    rcases k3 b e with e | e
    · exact n2 b e e'
    · have := h3.lt b e'; omega
  · intro e; rcases k3 _ e with e | e
    · exact m1 e
    · omega
  · rintro b (e | e)
    · exact (k3 b e).imp (fun e => (hF b).2 (.inl e)) id
    · exact .inl ((hF b).2 (.inr e))
/-- Its epochs, and what a call of the epochs makes of the world. -/
theorem WS.ep (h : WS d FW w s) : ∃ FE, EpS FE w d.E s.now s.S ∧ (∀ b, FE b → FW b) ∧ ∀ n S' w', NxE FE w d.E n S' w' → NxW d FW w { s with now := n, S := S' } w' := by
  obtain ⟨FA, FE, FT, h1, h2, h3, n1, n2, n3, hF, m1, m2, m3⟩ := h.parts
  refine ⟨FE, h2, fun b e => (hF b).2 (.inr (.inl e)), ?_⟩
  rintro n S' w' ⟨F', k1, k2, k3⟩
  have hlW := (Array.getElem?_eq_some_iff.1 h.head).1
  refine ⟨fun b => FA b ∨ F' b ∨ FT b ∨ b = d.W, ⟨(k2.block _ hlW m2).trans h.head, FA, F', FT, h1.only k2 n1, k1, h3.only k2 (fun b e e' => n3 b e' e), ?_, n2, ?_, fun _ => Iff.rfl, m1, ?_, m3⟩, k2.mono fun b e => (hF b).2 (.inr (.inl e)), ?_⟩
  · intro b e e'
    rcases k3 b e' with e' | e'
    · exact n1 b e e'
    · have := h1.lt b e; omega
  · intro b e e'
    rcases k3 b e with e | e
    · exact n3 b e e'
    · have := h3.lt b e'; omega
  · intro e; rcases k3 _ e with e | e
    · exact m2 e
    · omega
  · rintro b (e | e | e)
    · exact .inl ((hF b).2 (.inl e))
    · exact (k3 b e).imp (fun e => (hF b).2 (.inr (.inl e))) id
    · exact .inl ((hF b).2 (.inr (.inr e)))
/-- Its records, and what a call of the table makes of the world. -/
theorem WS.rc (h : WS d FW w s) : ∃ FT, TbS FT w d.R d.m s.rs ∧ (∀ b, FT b → FW b) ∧ ∀ rs' w', NxT FT w d.R d.m rs' w' → NxW d FW w { s with rs := rs' } w' := by
  obtain ⟨FA, FE, FT, h1, h2, h3, n1, n2, n3, hF, m1, m2, m3⟩ := h.parts
  refine ⟨FT, h3, fun b e => (hF b).2 (.inr (.inr (.inl e))), ?_⟩
  rintro rs' w' ⟨F', k1, k2, k3⟩
  have hlW := (Array.getElem?_eq_some_iff.1 h.head).1
  refine ⟨fun b => FA b ∨ FE b ∨ F' b ∨ b = d.W, ⟨(k2.block _ hlW m3).trans h.head, FA, FE, F', h1.only k2 n2, h2.only k2 n3, k1, n1, ?_, ?_, fun _ => Iff.rfl, m1, m2, ?_⟩, k2.mono fun b e => (hF b).2 (.inr (.inr (.inl e))), ?_⟩
  · intro b e e'
    rcases k3 b e' with e' | e'
    · exact n2 b e e'
    · have := h1.lt b e; omega
  · intro b e e'
    rcases k3 b e' with e' | e'
    · exact n3 b e e'
    · have := h2.lt b e; omega
  · intro e; rcases k3 _ e with e | e
    · exact m3 e
    · omega
  · rintro b (e | e | e | e)
    · exact .inl ((hF b).2 (.inl e))
    · exact .inl ((hF b).2 (.inr (.inl e)))
    · exact (k3 b e).imp (fun e => (hF b).2 (.inr (.inr (.inl e)))) id
    · exact .inl ((hF b).2 (.inr (.inr (.inr e))))
theorem NxW.same (h : WS d FW w s) : NxW d FW w s w := ⟨FW, h, Only.refl _ _, fun _ e => .inl e⟩
theorem NxW.of_below (h : WS d FW w s) (hb : Below w.heap.size w w') : NxW d FW w s w' := ⟨FW, h.below hb, Only.of_below FW hb, fun _ e => .inl e⟩
theorem NxW.after (hb : Below w.heap.size w w2) (h : NxW d FW w2 s w') : NxW d FW w s w' := by
  obtain ⟨F', h1, h2, h3⟩ := h
  exact ⟨F', h1, (Only.of_below FW hb).then h2, fun b e => (h3 b e).imp id (fun e => Nat.le_trans hb.size e)⟩
theorem NxW.then (h : NxW d FW w s w2) (hk : ∀ FW', WS d FW' w2 s → NxW d FW' w2 s' w') : NxW d FW w s' w' := by
  obtain ⟨F1, h1, h2, h3⟩ := h
  obtain ⟨F2, k1, k2, k3⟩ := hk F1 h1
  exact ⟨F2, k1, h2.trans k2 h3, fun b e => (k3 b e).elim (h3 b) fun e => .inr (Nat.le_trans h2.size e)⟩
end

/-- A number that an int64 can be. -/
def in64 (z : Int) : Prop := -9223372036854775808 ≤ z ∧ z ≤ 9223372036854775807
/-- Not too many records; each node's record is a number. -/
def RcOk (s : Sig) : Prop := s.rs.length ≤ 1000 ∧ ∀ p ∈ s.ar.pls, in64 p.info
/-- What is shared can be counted. -/
structure Fit (s : Sig) : Prop where
  ok : Ok s.ar
  fr : ∀ i ∈ s.ar.fr, i < s.ar.pls.length
  now : 0 ≤ s.now ∧ s.now ≤ 1000000
  len : s.S.length ≤ 64
  said : ∀ x ∈ s.S, in64 x.1
  que : ∀ x ∈ s.S, x.2.length ≤ 1000 ∧ ∀ p ∈ x.2, in64 p.1 ∧ in64 p.2
  rc : RcOk s

/-- Blocks of R stay as they are. -/
structure Kp (R : Nat → Prop) (w w' : World) : Prop where
  os : w'.os = w.os
  tape : w'.tape = w.tape
  output : w'.output = w.output
  size : w.heap.size ≤ w'.heap.size
  block : ∀ b, R b → w'.heap[b]? = w.heap[b]?
section
variable {R R' G : Nat → Prop} {w w' w2 : World}
theorem Kp.refl (R : Nat → Prop) (w : World) : Kp R w w := ⟨rfl, rfl, rfl, Nat.le_refl _, fun _ _ => rfl⟩
theorem Kp.trans (h : Kp R w w') (k : Kp R w' w2) : Kp R w w2 := ⟨k.os.trans h.os, k.tape.trans h.tape, k.output.trans h.output, Nat.le_trans h.size k.size, fun b e => (k.block b e).trans (h.block b e)⟩
theorem Kp.mono (h : Kp R w w') (hs : ∀ b, R' b → R b) : Kp R' w w' := ⟨h.os, h.tape, h.output, h.size, fun b e => h.block b (hs b e)⟩
theorem Kp.only (h : Only G w w') (hR : ∀ b, R b → b < w.heap.size ∧ ¬ G b) : Kp R w w' := ⟨h.os, h.tape, h.output, h.size, fun b e => h.block b (hR b e).1 (hR b e).2⟩
theorem Kp.below (h : Below w.heap.size w w') (hR : ∀ b, R b → b < w.heap.size) : Kp R w w' := ⟨h.os, h.tape, h.output, h.size, fun b e => h.block b (hR b e)⟩
theorem Kp.cell (h : Kp R w w') {p : Addr} (hp : R p.block) : w'.cell? p = w.cell? p := by unfold World.cell?; rw [h.block _ hp]
theorem Kp.read (h : Kp R w w') {p : Addr} {v : Value} (hp : R p.block) (hc : w.cell? p = some v) : w'.cell? p = some v := (h.cell hp).trans hc
end

/-- A thread at block a and the world beside it, apart from each other and from R. -/
def Lv0 (d : Wd) (R : Nat → Prop) (w : World) (a : Nat) (wk : Value) (zs : List Int) (st ph k : Nat) (s : Sig) : Prop :=
  ∃ F FW T, Th F w a wk zs st (.slice none 0 0) [] ph k T ∧ WS d FW w s ∧ (∀ b, F b → ¬ FW b) ∧ ∀ b, R b → b < w.heap.size ∧ ¬ F b ∧ ¬ FW b
def phOf (live : Bool) : Nat := if live then 1 else 3
/-- Gone through as far as c. -/
structure Lv (d : Wd) (R : Nat → Prop) (w : World) (a : Nat) (wk : Value) (c : Cur) (s : Sig) : Prop where
  lv : Lv0 d R w a wk c.zs c.st (phOf c.live) c.k s
  ok : c.ok
  few : c.zs.length + c.st ≤ (if c.live then 900 else 902)
  in64 : ∀ z ∈ c.zs, in64 z
  fit : c.live = true → Fit s
/-- It waits. -/
structure Wt (d : Wd) (R : Nat → Prop) (w : World) (a : Nat) (wk : Value) (zs : List Int) (st : Nat) (s : Sig) : Prop where
  lv : ∃ k, Lv0 d R w a wk zs st 4 k s
  in64 : ∀ z ∈ zs, in64 z
/-- What a call comes to. -/
def Post {α : Type} (d : Wd) (R : Nat → Prop) (w : World) (a : Nat) (wk : Value) (V : α → Value) (o : Out α) (e : Ending) (w' : World) : Prop :=
  Kp R w w' ∧ match o with
  | .ret v c s => e = .returned (V v) ∧ Lv d R w' a wk c s
  | .wait zs st s => e = .panicked waitE ∧ Wt d R w' a wk zs st s
section
variable {d : Wd} {R R' : Nat → Prop} {w w' w0 : World} {a st ph k : Nat} {wk : Value} {zs : List Int} {c : Cur} {s : Sig} {α β : Type} {V : α → Value}
theorem Lv0.below (h : Lv0 d R w a wk zs st ph k s) (hb : Below w.heap.size w w') : Lv0 d R w' a wk zs st ph k s := by
  obtain ⟨F, FW, T, h1, h2, h3, h4⟩ := h
  exact ⟨F, FW, T, h1.below hb, h2.below hb, h3, fun b e => ⟨Nat.lt_of_lt_of_le (h4 b e).1 hb.size, (h4 b e).2⟩⟩
theorem Lv0.mono (h : Lv0 d R w a wk zs st ph k s) (hs : ∀ b, R' b → R b) : Lv0 d R' w a wk zs st ph k s := by
  obtain ⟨F, FW, T, h1, h2, h3, h4⟩ := h
  exact ⟨F, FW, T, h1, h2, h3, fun b e => h4 b (hs b e)⟩
/-- Blocks that were made just now are nobody's. -/
theorem Lv0.more (h : Lv0 d R w a wk zs st ph k s) (hb : Below w.heap.size w w') (hs : ∀ b, R' b → R b ∨ (w.heap.size ≤ b ∧ b < w'.heap.size)) : Lv0 d R' w' a wk zs st ph k s := by
  obtain ⟨F, FW, T, h1, h2, h3, h4⟩ := h
  refine ⟨F, FW, T, h1.below hb, h2.below hb, h3, fun b e => ?_⟩
  rcases hs b e with e | e
  · exact ⟨Nat.lt_of_lt_of_le (h4 b e).1 hb.size, (h4 b e).2⟩
  · exact ⟨e.2, fun f => by have := h1.lt b f; omega, fun f => by have := h2.lt b f; omega⟩
theorem Lv0.lt (h : Lv0 d R w a wk zs st ph k s) : ∀ b, R b → b < w.heap.size := by
  obtain ⟨F, FW, T, h1, h2, h3, h4⟩ := h; exact fun b e => (h4 b e).1
theorem Lv.lt (h : Lv d R w a wk c s) : ∀ b, R b → b < w.heap.size := h.lv.lt
theorem Lv.mono (h : Lv d R w a wk c s) (hs : ∀ b, R' b → R b) : Lv d R' w a wk c s := ⟨h.lv.mono hs, h.ok, h.few, h.in64, h.fit⟩
theorem Lv.more (h : Lv d R w a wk c s) (hb : Below w.heap.size w w') (hs : ∀ b, R' b → R b ∨ (w.heap.size ≤ b ∧ b < w'.heap.size)) : Lv d R' w' a wk c s := ⟨h.lv.more hb hs, h.ok, h.few, h.in64, h.fit⟩
theorem Lv.below (h : Lv d R w a wk c s) (hb : Below w.heap.size w w') : Lv d R w' a wk c s := ⟨h.lv.below hb, h.ok, h.few, h.in64, h.fit⟩
theorem Wt.mono (h : Wt d R w a wk zs st s) (hs : ∀ b, R' b → R b) : Wt d R' w a wk zs st s := by
  obtain ⟨⟨k, h1⟩, h2⟩ := h
  exact ⟨⟨k, h1.mono hs⟩, h2⟩
theorem Post.mono {o : Out α} {e : Ending} (h : Post d R w a wk V o e w') (hs : ∀ b, R' b → R b) : Post d R' w a wk V o e w' := by
  cases o with
  | ret v c s => exact ⟨h.1.mono hs, h.2.1, h.2.2.mono hs⟩
  | wait zs st s => obtain ⟨h1, h2, h3⟩ := h; exact ⟨h1.mono hs, h2, h3.mono hs⟩
theorem Post.from_ {o : Out α} {e : Ending} (hk : Kp R w0 w) (h : Post d R w a wk V o e w') : Post d R w0 a wk V o e w' := ⟨hk.trans h.1, h.2⟩

/-- A touch, as the thread's Do does it: called without arguments it answers a number. -/
def Tou (d : Wd) (s : Sig) (R : Nat → Prop) (w : World) (f : Nat) (args : Array Value) (g : Sig → Int × Sig) : Prop :=
  ∀ w1 FW, WS d FW w1 s → (∀ b, R b → w1.heap[b]? = w.heap[b]? ∧ ¬ FW b) → w.heap.size ≤ w1.heap.size → Calls Try.prog f args w1 fun e w2 => e = .returned (.int .i64 (g s).1) ∧ NxW d FW w1 (g s).2 w2
abbrev intV (z : Int) : Value := .int .i64 z
theorem do_touch0 {g : Sig → Int × Sig} {fv : Value} (h : Lv d R w a wk c s) (hg : c.live = true → in64 (g s).1)
    (hre : ∀ (F : Nat → Prop) (T : Value), Th F w a wk c.zs c.st (.slice none 0 0) [] 1 c.k T → c.k < c.zs.length → c.zs.length ≤ 1000 → Calls Try.prog DO #[ptr a, fv] w fun e w' => e = .returned (.int .i64 (c.zs.getD c.k 0)) ∧ Th F w' a wk c.zs c.st (.slice none 0 0) [] 1 (c.k + 1) T ∧ Only (· = a) w w')
    (hwa : ∀ (F : Nat → Prop) (T : Value), Th F w a wk c.zs c.st (.slice none 0 0) [] 3 c.k T → c.k = c.zs.length → c.zs.length ≤ 1000 → Calls Try.prog DO #[ptr a, fv] w fun e w' => e = .panicked waitE ∧ Th F w' a wk c.zs c.st (.slice none 0 0) [] 4 c.k T ∧ Only (· = a) w w')
    (hfr : ∀ (F FW : Nat → Prop) (T : Value), c.live = true → Th F w a wk c.zs c.st (.slice none 0 0) [] 1 c.k T → c.k = c.zs.length → c.zs.length ≤ 900 → c.st ≤ 1000 → WS d FW w s → (∀ b, F b → ¬ FW b) → (∀ b, R b → b < w.heap.size ∧ ¬ F b ∧ ¬ FW b) →
      Calls Try.prog DO #[ptr a, fv] w fun e w' => ∃ z w2 F' T', e = .returned (.int .i64 z) ∧ (z = (g s).1 ∧ ∃ FW', WS d FW' w2 (g s).2 ∧ Only (fun b => FW b ∨ b = a) w w2 ∧ ∀ b, FW' b → FW b ∨ w.heap.size ≤ b) ∧ Th F' w' a wk (c.zs ++ [z]) (c.st + 1) (.slice none 0 0) [] 3 (c.k + 1) T' ∧ Only F w2 w' ∧ ∀ b, F' b → F b ∨ w2.heap.size ≤ b) :
    Calls Try.prog DO #[ptr a, fv] w (Post d R w a wk intV (run (tDo g) c s)) := by
  obtain ⟨⟨F, FW, T, h1, h2, h3, h4⟩, hok, hfew, hin, hfit⟩ := h
  obtain ⟨zs, st, k, live⟩ := c
  have haR : ∀ b, R b → b < w.heap.size ∧ ¬ b = a := fun b e => ⟨(h4 b e).1, fun e2 => (h4 b e).2.1 (e2 ▸ h1.fa)⟩
  have haW : ∀ b, FW b → ¬ b = a := fun b e e2 => h3 a h1.fa (e2 ▸ e)
  cases live with
  | true =>
    have hk1 : k ≤ zs.length := hok.1 rfl
    simp only [if_true] at hfew
    by_cases hk : k < zs.length
    · refine (hre F T h1 hk (by dsimp only; omega)).mono ?_
      rintro e w' ⟨rfl, r1, r2⟩
      rw [tDo, run_replay _ _ _ _ _ _ hk]
      exact ⟨Kp.only r2 haR, rfl, ⟨F, FW, T, r1, h2.only r2 haW, h3, fun b e => ⟨Nat.lt_of_lt_of_le (h4 b e).1 r2.size, (h4 b e).2⟩⟩, ⟨fun _ => hk, fun e => (by cases e)⟩, by simp only [if_true]; exact hfew, hin, hfit⟩
    · have hke : k = zs.length := by omega
      refine (hfr F FW T rfl h1 hke (by dsimp only at *; omega) (by dsimp only at *; omega) h2 h3 h4).mono ?_
      rintro e w' ⟨z, w2, F', T', rfl, ⟨rfl, FW', q1, q2, q3⟩, r1, r2, r3⟩
      have hFlt : ∀ b, F b → b < w.heap.size := h1.lt
      have hFW' : ∀ b, FW' b → ¬ F b := fun b e f => by
        rcases q3 b e with e | e
        · exact h3 b f e
        · have := hFlt b f; omega
      rw [tDo, run_fresh _ _ _ _ _ _ hke]
      refine ⟨(Kp.only q2 fun b e => ⟨(h4 b e).1, fun e2 => e2.elim (h4 b e).2.2 (haR b e).2⟩).trans (Kp.only r2 fun b e => ⟨Nat.lt_of_lt_of_le (h4 b e).1 q2.size, (h4 b e).2.1⟩), rfl, ⟨F', FW', T', r1, q1.only r2 hFW', ?_, ?_⟩, ⟨fun e => (by cases e), fun _ => (by simp [hke])⟩, (by simp; omega), ?_, fun e => (by cases e)⟩
      · intro b e f
        rcases r3 b e with e | e
        · exact hFW' b f e
        · have := q1.lt b f; omega
      · intro b e
        have hl := Nat.lt_of_lt_of_le (h4 b e).1 q2.size
        refine ⟨Nat.lt_of_lt_of_le hl r2.size, fun f => ?_, fun f => ?_⟩
        · rcases r3 b f with f | f
          · exact (h4 b e).2.1 f
          · omega
        · rcases q3 b f with f | f
          · exact (h4 b e).2.2 f
          · have := (h4 b e).1; omega
      · intro z hz
        rcases List.mem_append.1 hz with hz | hz
        · exact hin z hz
        · obtain rfl : z = (g s).1 := by simpa using hz
          exact hg rfl
  | false =>
    have hke : k = zs.length := hok.2 rfl
    simp at hfew
    refine (hwa F T h1 hke (by dsimp only at *; omega)).mono ?_
    rintro e w' ⟨rfl, r1, r2⟩
    rw [tDo, run_wait]
    exact ⟨Kp.only r2 haR, rfl, ⟨k, F, FW, T, r1, h2.only r2 haW, h3, fun b e => ⟨Nat.lt_of_lt_of_le (h4 b e).1 r2.size, (h4 b e).2⟩⟩, hin⟩
/-- Do of a closure. -/
theorem do_touch {g : Sig → Int × Sig} {f : Nat} {cap : Array Value} (hen : ∀ W : World, (callFunc f cap).run Try.prog W = .ok (.enter f cap) W) (h : Lv d R w a wk c s) (hg : c.live = true → in64 (g s).1) (ht : c.live = true → Tou d s R w f cap g) :
    Calls Try.prog DO #[ptr a, .func (.func f) #[] cap] w (Post d R w a wk intV (run (tDo g) c s)) := by
  refine do_touch0 h hg (fun F T h1 h2 h3 => do_replay _ _ _ h1 h2 h3) (fun F T h1 h2 h3 => do_wait _ _ _ h1 h2 h3) ?_
  intro F FW T hlive h1 hk hl hst h2 h3 h4
  refine do_fresh (S := fun z w2 => z = (g s).1 ∧ ∃ FW', WS d FW' w2 (g s).2 ∧ Only (fun b => FW b ∨ b = a) w w2 ∧ ∀ b, FW' b → FW b ∨ w.heap.size ≤ b) hen h1 hk hl hst ?_
  intro w1 hT hO
  have hW1 := h2.only hO (fun b e e2 => h3 a h1.fa (e2 ▸ e))
  refine (ht hlive w1 FW hW1 (fun b e => ⟨hO.block b (h4 b e).1 (fun e2 => (h4 b e).2.1 (e2 ▸ h1.fa)), (h4 b e).2.2⟩) hO.size).mono ?_
  rintro e w2 ⟨rfl, FW', q1, q2, q3⟩
  refine ⟨_, rfl, hT.only q2 h3, rfl, FW', q1, (hO.mono fun b e => .inr e).then (q2.mono fun b e => .inl e), fun b e => (q3 b e).imp id fun e => Nat.le_trans hO.size e⟩
/-- Do of a method value. -/
theorem do_touchM {g : Sig → Int × Sig} {f : Nat} {cap : Array Value} (hen : ∀ W : World, (callFunc f cap).run Try.prog W = .ok (.enter f cap) W) (h : Lv d R w a wk c s) (hg : c.live = true → in64 (g s).1) (ht : c.live = true → Tou d s R w f cap g) :
    Calls Try.prog DO #[ptr a, .func (.func f) cap #[]] w (Post d R w a wk intV (run (tDo g) c s)) := by
  refine do_touch0 h hg (fun F T h1 h2 h3 => do_replay _ _ _ h1 h2 h3) (fun F T h1 h2 h3 => do_wait _ _ _ h1 h2 h3) ?_
  intro F FW T hlive h1 hk hl hst h2 h3 h4
  refine do_freshM (S := fun z w2 => z = (g s).1 ∧ ∃ FW', WS d FW' w2 (g s).2 ∧ Only (fun b => FW b ∨ b = a) w w2 ∧ ∀ b, FW' b → FW b ∨ w.heap.size ≤ b) hen h1 hk hl hst ?_
  intro w1 hT hO
  have hW1 := h2.only hO (fun b e e2 => h3 a h1.fa (e2 ▸ e))
  refine (ht hlive w1 FW hW1 (fun b e => ⟨hO.block b (h4 b e).1 (fun e2 => (h4 b e).2.1 (e2 ▸ h1.fa)), (h4 b e).2.2⟩) hO.size).mono ?_
  rintro e w2 ⟨rfl, FW', q1, q2, q3⟩
  refine ⟨_, rfl, hT.only q2 h3, rfl, FW', q1, (hO.mono fun b e => .inr e).then (q2.mono fun b e => .inl e), fun b e => (q3 b e).imp id fun e => Nat.le_trans hO.size e⟩
end
end Go.Proofs.Ytmhmgdpcibldlaa
