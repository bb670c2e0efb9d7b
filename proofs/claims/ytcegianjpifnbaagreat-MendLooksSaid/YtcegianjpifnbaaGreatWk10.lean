/-
  The laws' work that looks at a node: a thread that loads it, and tells what it was.
-/
import Derived.Test.YtcegianjpifnbaaGreatLd10
import Derived.Test.YtcegianjpifnbaaGreatLk10
namespace Go.Proofs.YtcegianjpifnbaaGreat
open Go.ChangeShapes Go.WideShapes Go.ChangeAt Go.RowKit
set_option linter.unusedVariables false
set_option linter.unusedSimpArgs false
set_option maxRecDepth 20000

abbrev i6T : TypeId := 2
/-- Whatever it is told, it answers so. -/
def rets {α : Type} (Q : α → Prop) : Tr α → Prop
  | .ret v => Q v
  | .tch g K => ∀ z, rets Q (K z)
  | .lk n K => ∀ r, rets Q (K r)
section
variable {α β : Type} {Q : α → Prop} {U : β → Prop}
theorem run_rets {t : Tr α} {c c' : Cur} {s s' : Sig} {v : α} (ht : rets Q t) (h : run t c s = .ret v c' s') : Q v := by
  induction t generalizing c s with
  | ret v => simp only [run] at h; injection h with h _ _; exact h ▸ ht
  | tch g K ih =>
    simp only [run] at h
    split at h
    · split at h
      · exact ih _ (ht _) h
      · exact ih _ (ht _) h
    · cases h
  | lk n K ih => exact ih _ (ht _) h
theorem ev_rets {t : Tr α} {s : Sig} (ht : rets Q t) : Q (ev t s).1 := by
  induction t generalizing s with
  | ret v => exact ht
  | tch g K ih => exact ih _ (ht _)
  | lk n K ih => exact ih _ (ht _)
theorem rets_bind {t : Tr α} {K : α → Tr β} (ht : rets Q t) (hK : ∀ v, Q v → rets U (K v)) : rets U (t.bind K) := by
  induction t with
  | ret v => exact hK v ht
  | tch g K' ih => exact fun z => ih z (ht z)
  | lk n K' ih => exact fun r => ih r (ht r)
theorem rets_any (t : Tr α) : rets (fun _ => True) t := by
  induction t with
  | ret v => exact trivial
  | tch g K ih => exact fun z => ih z
  | lk n K ih => exact fun r => ih r
end
theorem rets_ways (r : Int) (k i : Nat) (ws : List Int) : rets (fun l => l.length = ws.length + k) (tWays r k i ws) := by
  induction k generalizing i ws with
  | zero => exact rfl
  | succ k ih =>
    refine rets_bind (rets_any _) fun z _ => ?_
    have := ih (i + 1) (ws ++ [z])
    rw [List.length_append, List.length_singleton, show ws.length + 1 + k = ws.length + (k + 1) from by omega] at this
    exact this
def LdOk (nd : Nd) (x : Sn × Int) : Prop := x.1.ws.length ≤ nd.zs.length ∧ (x.2 = 0 ∨ x.2 = 1 ∨ x.2 = 2) ∧ (x.2 = 0 → x.1.ws.length = nd.zs.length)
theorem rets_rest (r n : Int) (m : Bool) (nd : Nd) : rets (LdOk nd) (tRest r n m) := by
  refine rets_bind (rets_any _) fun b _ => ?_
  split
  · exact ⟨Nat.zero_le _, .inr (.inr rfl), fun e => by cases e⟩
  · exact rets_bind (rets_any _) fun n2 _ => rets_bind (rets_any _) fun _ _ => ⟨Nat.zero_le _, .inr (.inl rfl), fun e => by cases e⟩
theorem rets_load (r : Int) (nd : Nd) : rets (LdOk nd) (tLoad r nd) := by
  refine rets_bind (rets_any _) fun m _ => rets_bind (rets_any _) fun n _ => rets_bind (rets_any _) fun st _ => rets_bind (rets_any _) fun m2 _ => ?_
  split
  · refine rets_bind (Q := fun x : Sn × Bool => x.1.ws.length = nd.zs.length) (rets_bind (rets_ways r _ 0 []) fun ws hw => rets_bind (rets_any _) fun y _ => (by show ws.length = _; simpa using hw)) fun x hx => ?_
    split
    · exact ⟨Nat.le_of_eq hx, .inl rfl, fun _ => hx⟩
    · exact rets_rest r n m nd
  · exact rets_rest r n m nd
/-- A node is loaded, and told. -/
def tLook (r : Int) (nd : Nd) : Tr (List Int) := (tLoad r nd).bind fun x => .ret (x.2 :: x.1.inf :: x.1.ws)
/-- What is told grows: its row T; the ways stay. -/
structure LKI (d : Wd) (R : Nat → Prop) (w : World) (a : Nat) (wk : Value) (c : Cur) (s : Sig) (q : Nat) (wv : Value) (ws : List Int) (T : Value) (zs : List Int) (wr : World) : Prop where
  lv : Lv d (fun b => R b ∨ T.ownBlock = some b) wr a wk c s
  kp : Kp R w wr
  ways : Row rfT 0 wr wv ws
  wo : ∀ b, wv.ownBlock = some b → b < q
  row : Row i6T 0 wr T zs
  own : ∀ b, T.ownBlock = some b → q ≤ b
  rq : ∀ b, R b → b < q
  sz : q ≤ wr.heap.size
section
variable {nds : List (Int × Nd)} {M : Nat} {d : Wd} {R R' X X' : Nat → Prop} {w w' w0 wr w1 : World} {a st ph k me p q : Nat} {wk wv T : Value} {zs ws : List Int} {c : Cur} {s : Sig} {n r : Int} {nd : Nd}
theorem LKI.push {z : Int} (h : LKI d R w a wk c s q wv ws T zs wr) (hl : zs.length ≤ 1000) :
    ∃ A' m' c' Z, (Builtin.append_ #[24, 24] 24 #[T, .slice (some ⟨wr.heap.size, 0, none⟩) 1 1]).run Tryz.prog (wr.alloc (.cells #[.int .i64 z] i6T)) = .ok (.slice A' m' c') Z ∧ LKI d R w a wk c s q wv ws (.slice A' m' c') (zs ++ [z]) Z := by
  have hb := below_new wr (.cells #[.int .i64 z] i6T)
  obtain ⟨A', m', c', Z, q1, q2, q3, q4⟩ := run_pushN rowK (own_at h.row fun b e => hb.block b (h.lv.lt b (.inr e))) (sl_one9 (z := z) (c_new rfl rfl)) (by simp; omega) (by simp)
  have hlv := h.lv.below hb
  have hZ : ∀ b, (Value.slice A' m' c').ownBlock = some b → b < Z.heap.size := fun b e => (World.ownsRow.lt q2 b e).2
  have hne : ∀ b, R b → some b ≠ T.ownBlock := fun b e f => by have := h.own b f.symm; have := h.rq b e; omega
  refine ⟨A', m', c', Z, q1, ⟨hlv.lv.kept q3 (fun b e => .inr e) (fun b e => ?_), hlv.ok, hlv.few, hlv.in64, hlv.fit⟩, ?_, own_at h.ways fun b e => ?_, h.wo, q2, fun b e => ?_, h.rq, Nat.le_trans h.sz (Nat.le_trans hb.size q3.size)⟩
  · rcases e with e | e
    · exact .inl (.inl e)
    · exact (q4 b e).imp .inr fun e2 => ⟨e2, hZ b e⟩
  · exact (h.kp.trans (Kp.below hb fun b e => h.lv.lt b (.inl e))).trans ⟨q3.os, q3.tape, q3.output, q3.size, fun b e => q3.block b (hlv.lt b (.inl e)) fun f => hne b e f⟩
  · have hq := h.wo b e
    have hlt := (World.ownsRow.lt h.ways b e).2
    rw [q3.block b (Nat.lt_of_lt_of_le hlt hb.size) (fun f => by have := h.own b f.symm; omega), hb.block b hlt]
  · rcases q4 b e with e2 | e2
    · exact h.own b e2
    · exact Nat.le_trans (Nat.le_trans h.sz hb.size) e2
theorem LKI.below (h : LKI d R w a wk c s q wv ws T zs wr) (hb : Below wr.heap.size wr w') : LKI d R w a wk c s q wv ws T zs w' :=
  ⟨h.lv.below hb, h.kp.trans (Kp.below hb fun b e => h.lv.lt b (.inl e)), own_at h.ways fun b e => hb.block b (World.ownsRow.lt h.ways b e).2, h.wo, own_at h.row fun b e => hb.block b (h.lv.lt b (.inr e)), h.own, h.rq, Nat.le_trans h.sz hb.size⟩
end
end Go.Proofs.YtcegianjpifnbaaGreat
