/-
  LlxRace's work.
-/
import Derived.Test.YtoeilogakfggfaaRc10
import Derived.Test.YtoeilogakfggfaaSp11
namespace Go.Proofs.Ytoeilogakfggfaa
open Go.ChangeShapes Go.WideShapes Go.ChangeAt Go.RowKit
set_option linter.unusedVariables false
set_option linter.unusedSimpArgs false
set_option maxRecDepth 20000

theorem goes_eq {l : List Sn} {x : Sn} {n : Nat} (h : l[0]? = some x) (hn : n = x.ws.length) : goesTo x.ws 0 200 n = goes0 l := by
  cases l with
  | nil => cases h
  | cons y l =>
    injection h with h; subst h; subst hn
    unfold goesTo goes0
    simp only [Int.toNat_zero]
    cases hw : y.ws with
    | nil => simp
    | cons a t => simp; rfl
theorem rets_loads2 (acc : List Sn) (l : List (Int × Nd)) : rets (fun x => x.2 = true → x.1.length = acc.length + l.length) (tLoads acc l) := by
  induction l generalizing acc with
  | nil => exact fun _ => rfl
  | cons x l ih =>
    refine rets_bind (rets_any _) fun y _ => ?_
    split
    · have := ih (acc ++ [y.1])
      rw [List.length_append, List.length_singleton, show acc.length + 1 + l.length = acc.length + (l.length + 1) from by omega] at this
      exact this
    · exact fun h => by cases h
theorem rets_ways2 (r : Int) (k i : Nat) (ws : List Int) : rets (fun x => x.length = ws.length + k) (tWays r k i ws) := by
  induction k generalizing i ws with
  | zero => exact rfl
  | succ k ih =>
    intro z
    have := ih (i + 1) (ws ++ [z])
    rw [List.length_append, List.length_singleton, show ws.length + 1 + k = ws.length + (k + 1) from by omega] at this
    exact this
theorem rets_load2 (r : Int) (nd : Nd) (h : nd.zs.length ≤ 100) : rets (fun y => y.1.ws.length ≤ 100) (tLoad r nd) := by
  have hrest : ∀ n m, rets (fun y : Sn × Int => y.1.ws.length ≤ 100) (tRest r n m) := fun n m => by
    refine rets_bind (rets_any _) fun b _ => ?_
    split
    · exact Nat.zero_le _
    · exact rets_bind (rets_any _) fun _ _ => rets_bind (rets_any _) fun _ _ => Nat.zero_le _
  refine rets_bind (rets_any _) fun m _ => rets_bind (rets_any _) fun n _ => rets_bind (rets_any _) fun st _ => rets_bind (rets_any _) fun m2 _ => ?_
  split
  · refine rets_bind (Q := fun x : Sn × Bool => x.1.ws.length ≤ 100) (rets_bind (rets_ways2 r nd.zs.length 0 []) fun ws hw => rets_bind (rets_any _) fun y _ => ?_) fun x hx => ?_
    · show ws.length ≤ 100
      simp at hw; omega
    · split
      · exact hx
      · exact hrest _ _
  · exact hrest _ _
theorem rets_loadsW {l : List (Int × Nd)} (h : ∀ x ∈ l, x.2.zs.length ≤ 100) (acc : List Sn) (ha : ∀ y ∈ acc, y.ws.length ≤ 100) : rets (fun x => ∀ y ∈ x.1, y.ws.length ≤ 100) (tLoads acc l) := by
  induction l generalizing acc with
  | nil => exact ha
  | cons x l ih =>
    refine rets_bind (rets_load2 x.1 x.2 (h x (List.mem_cons_self ..))) fun y hy => ?_
    split
    · refine ih (fun z hz => h z (List.mem_cons_of_mem _ hz)) _ fun z hz => ?_
      rcases List.mem_append.1 hz with e | e
      · exact ha z e
      · rw [List.mem_singleton.1 e]; exact hy
    · exact fun z hz => by cases hz
section
variable {nds : List (Int × Nd)} {M : Nat} {d : Wd} {R R' X X' : Nat → Prop} {w w' w0 wr w1 : World} {a st ph k me p q : Nat} {wk T : Value} {zs ws : List Int} {c : Cur} {s : Sig} {n r : Int} {nd : Nd} {e : Ending} {nw : Int}
end
end Go.Proofs.Ytoeilogakfggfaa
