/-
  Law LlxSnaps: what a snap tells of keys, ways, entries, whichever it is.
-/
import Derived.Test.YtmnldlhpiapalaaAw10
namespace Go.Proofs.Ytmnldlhpiapalaa
open Go.ChangeShapes Go.WideShapes Go.ChangeAt Go.RowKit
set_option linter.unusedVariables false
set_option linter.unusedSimpArgs false
set_option maxRecDepth 20000

abbrev inT : TypeId := 71
theorem snap_boxes (w : World) (rf inf : Int) (x y : Bool) (pv kv zv wv : Value) : ∃ (W : World) (p q : Nat), (w.alloc (.cells #[.int .i64 rf, .int .i64 inf, .bool x, .bool y, pv, kv, zv, wv] snT)).alloc (.cells #[.slice none 0 0, .slice none 0 0] inT) = W ∧ w.heap.size = p ∧ p + 1 = q ∧ Below w.heap.size w W ∧ Eig W p rf inf x y pv kv zv wv ∧ Var W q ∧ p < W.heap.size ∧ q < W.heap.size ∧ p ≠ q ∧ q ≠ p :=
  ⟨_, _, _, rfl, rfl, rfl, ((Below.refl _ w).alloc (Nat.le_refl _) _).alloc (by simp) _, (Eig.new w rfl rf inf x y pv kv zv wv).below (below_new _ _), Var.new _ (by simp) _, by simp; omega, by simp, by omega, by omega⟩
theorem snap_box (w : World) (rf inf : Int) (x y : Bool) (pv kv zv wv : Value) : ∃ (W : World) (p : Nat), (w.alloc (.cells #[.int .i64 rf, .int .i64 inf, .bool x, .bool y, pv, kv, zv, wv] snT)) = W ∧ w.heap.size = p ∧ Below w.heap.size w W ∧ Eig W p rf inf x y pv kv zv wv :=
  ⟨_, _, rfl, rfl, below_new _ _, Eig.new w rfl rf inf x y pv kv zv wv⟩
section
variable {rf inf : Int} {x y : Bool} {pv zv : Value} {P B C : Option Addr} {n1 c1 m c p q : Nat} {ks ws : List Int} {w : World}
def goesTo (ws : List Int) (way r : Int) (i : Nat) : Bool := decide (0 ≤ way ∧ way.toNat < i ∧ ws[way.toNat]? = some r)
/-- Does a way go there? -/
theorem snapGoes_walk {way r : Int} (hz : Sl w C p q ws) (hp : p ≤ 100000) :
    Calls Try.prog 28 #[snv rf inf x y (.slice P n1 c1) pv zv (.slice C p q), .int .i64 way, .int .i64 r] w fun e w' => e = .returned (.bool (goesTo ws way r p)) ∧ Below w.heap.size w w' := by
  obtain ⟨W, b, hW, hb, hb0, e8⟩ := snap_box w rf inf x y (.slice P n1 c1) pv zv (.slice C p q)
  obtain ⟨-, -, d2, -, d4, -, -, d7⟩ := e8.cells
  have HW := Lib.hid hb0
  have HW2 : Hid (Below b w W) := by rw [← hb]; exact hb0
  have HZ : Hid (Sl W C p q ws) := hz.below hb0
  clear hb0 e8 hz
  have hlen := HZ.out.len
  by_cases h0 : 0 ≤ way
  · by_cases h1 : way < (p : Int)
    · obtain ⟨k, rfl⟩ := Int.eq_ofNat_of_zero_le h0
      have hk : k < ws.length := by omega
      obtain ⟨g, off, rfl, hg, hc⟩ := HZ.out.at_ hk
      have hE : goesTo ws (k : Int) r p = decide (ws[k] = r) := by
        unfold goesTo
        rw [decide_eq_decide, Int.toNat_natCast, List.getElem?_eq_getElem hk]
        constructor
        · rintro ⟨-, -, h⟩; injection h
        · intro h; exact ⟨by omega, by omega, by rw [h]⟩
      rw [hE]
      clear hE hlen HZ
      generalize ws[k] = z at *
      go_enter Try.func28, Try.ntmps28
      go_wp2_with fail
      (try rw [hW]); (try rw [hb])
      go_wp2
      go_ret
      refine ⟨by first | rfl | simp, ?_⟩
      first | exact HW.out | exact HW2.out
    · have hE : goesTo ws way r p = false := by
        unfold goesTo
        simp only [decide_eq_false_iff_not]
        rintro ⟨-, h, -⟩
        omega
      rw [hE]
      clear hE hlen HZ
      go_enter Try.func28, Try.ntmps28
      go_wp2_with fail
      (try rw [hW]); (try rw [hb])
      go_wp2
      go_ret
      first | exact ⟨rfl, HW.out⟩ | exact ⟨rfl, HW2.out⟩
  · have hE : goesTo ws way r p = false := by
      unfold goesTo
      simp only [decide_eq_false_iff_not]
      rintro ⟨h, -⟩
      exact h0 h
    rw [hE]
    clear hE hlen HZ
    go_enter Try.func28, Try.ntmps28
    go_wp2_with fail
    (try rw [hW]); (try rw [hb])
    go_wp2
    go_ret
    first | exact ⟨rfl, HW.out⟩ | exact ⟨rfl, HW2.out⟩
end
end Go.Proofs.Ytmnldlhpiapalaa
