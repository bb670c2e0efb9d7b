/-
  What the laws' Nodes returns.
-/
import Derived.Test.YtcegianjpifnbaaGreatHl10
namespace Go.Proofs.YtcegianjpifnbaaGreat
open Go.ChangeShapes Go.WideShapes Go.ChangeAt Go.RowKit
set_option linter.unusedVariables false
set_option linter.unusedSimpArgs false
set_option maxRecDepth 20000

def h0 : Nat → Hp := fun _ => ⟨0, 0, 0, #[], .ret [], fun _ => True⟩
def o0 : Nat → Ts := fun _ => .fin []
/-- The first k nodes' references. -/
def refN (k : Nat) : List Int := (List.range k).map rfN
theorem refN_len (k : Nat) : (refN k).length = k := by simp [refN]
theorem refN_snoc (k : Nat) : refN (k + 1) = refN k ++ [rfN k] := by simp [refN, List.range_succ]
theorem refN_at {k i : Nat} (h : i < k) : (refN k)[i]? = some (rfN i) := by simp [refN, h]
/-- The nodes' slice, in blocks of X. -/
structure NL (X : Nat → Prop) (w : World) (v : Value) (rs : List Int) : Prop where
  row : Row 53 0 w v rs
  own : ∀ b, v.ownBlock = some b → X b
def ownX (W : World) (v : Value) (b : Nat) : Prop := v.ownBlock = some b ∧ W.heap.size ≤ b
structure NdI (W : World) (d : Wd) (L m k : Nat) (v : Value) (w : World) : Prop where
  mb : MB W (ownX W v) d 0 0 h0 o0 (sN L k ns0 []) w
  row : Row 53 0 w v (refN k)
  own : ∀ b, v.ownBlock = some b → W.heap.size ≤ b
  dm : d.m = m
theorem sN_zero (L : Nat) : sN L 0 ns0 [] = newSig 60 L := rfl
theorem inv_ns0 (L k B : Nat) (hk : k ≤ 50) (hL : L ≤ 64) (hB : B ≤ 900) (rs : List Re) (hrs : rs.length ≤ 1000) : Inv L B (sN L k ns0 rs) := inv_sN hk hL hB (fun i _ => in01.1) hrs
theorem NdI.push {W w1 : World} {d : Wd} {L m k : Nat} {v : Value} {w : World} (h : NdI W d L m k v w) (hw : MB W (ownX W v) d 0 0 h0 o0 (sN L (k + 1) ns0 []) w1) (hk : k ≤ 1000) (hK : ∀ b, v.ownBlock = some b → w1.heap[b]? = w.heap[b]?) :
    ∃ A' m' c' Z, (Builtin.append_ #[25, 25] 25 #[v, .slice (some ⟨w1.heap.size, 0, none⟩) 1 1]).run Tryz.prog (w1.alloc (.cells #[.int .i64 (rfN k)] 53)) = .ok (.slice A' m' c') Z ∧ NdI W d L m (k + 1) (.slice A' m' c') Z := by
  have hb := below_new w1 (.cells #[.int .i64 (rfN k)] 53)
  have h1 := hw.below hb
  have r1 : Row 53 0 (w1.alloc (.cells #[.int .i64 (rfN k)] 53)) v (refN k) := own_at h.row fun b e => (hb.block b (hw.lt b ⟨e, h.own b e⟩)).trans (hK b e)
  obtain ⟨A', m', c', Z, q1, q2, q3, q4⟩ := run_pushN rowR (w := w1.alloc (.cells #[.int .i64 (rfN k)] 53)) r1 (sl_one9 (z := rfN k) (c_new rfl rfl)) (by rw [refN_len]; simp; omega) (by simp)
  have hl : ∀ b, (Value.slice A' m' c').ownBlock = some b → b < Z.heap.size := fun b e => (World.ownsRow.lt q2 b e).2
  refine ⟨A', m', c', Z, q1, h1.kept q3 (fun b e => ⟨⟨e, h.own b e⟩, h.own b e⟩) (fun b e => ?_), by rw [refN_snoc]; exact q2, fun b e => ?_, h.dm⟩
  · rcases q4 b e.1 with e2 | e2
    · exact .inl ⟨e2, e.2⟩
    · exact .inr ⟨e2, hl b e.1⟩
  · rcases q4 b e with e2 | e2
    · exact h.own b e2
    · exact Nat.le_trans h1.bel.size e2
end Go.Proofs.YtcegianjpifnbaaGreat
