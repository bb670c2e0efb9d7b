/-
  The laws' work that loads some nodes and stores; what starts it.
-/
import Derived.Test.YtoeilogakfggfaaSo10
import Derived.Test.YtoeilogakfggfaaSn10
namespace Go.Proofs.Ytoeilogakfggfaa
open Go.ChangeShapes Go.WideShapes Go.ChangeAt Go.RowKit
set_option linter.unusedVariables false
set_option linter.unusedSimpArgs false
set_option maxRecDepth 20000

def stZ (y : Bool × Bool) : Int := if y.2 = true then 2 else if y.1 = true then 1 else 0
def tChange (M : Nat) (prs : List (Int × Nd)) (kp wy od nw : Int) : Tr (List Int) := (tLoads [] prs).bind fun x => if x.2 = true then (tStore M x.1 kp wy od nw).bind fun y => .ret [stZ y] else .ret [-1]
section
variable {nds : List (Int × Nd)} {M L : Nat} {s : Sig} {kp wy od nw : Int}
theorem kpL_bindR {α β : Type} {Q : α → Prop} {t : Tr α} {K : α → Tr β} (ht : kpL nds M t) (hr : rets Q t) (hK : ∀ v, Q v → kpL nds M (K v)) : kpL nds M (t.bind K) := by
  induction t with
  | ret v => exact hK v hr
  | tch g K' ih => exact ⟨ht.1, fun z => ih z (ht.2 z) (hr z)⟩
  | lk n K' ih => exact fun r h1 h2 => ih r (ht r h1 h2) (hr r)
theorem kl_change {prs : List (Int × Nd)} (hl : prs.length ≤ 20) (hn : in64 nw) : kpL nds M (tChange M prs kp wy od nw) :=
  kpL_bindR (kl_loads [] prs) (rets_loads [] prs) fun x hx => kl_if (kpL_bind (kl_store (by simp at hx; omega) hn) fun y => trivial) trivial
theorem good_change (M : Nat) (prs : List (Int × Nd)) (kp wy od nw : Int) (s : Sig) : good (tChange M prs kp wy od nw) s := by
  refine good_bind (good_loads [] prs s) fun x s' _ => ?_
  split
  · exact good_bind (good_store _ _ _ _ _ _ s') fun _ _ _ => trivial
  · exact trivial
theorem tj_loads (acc : List Sn) (l : List (Int × Nd)) : tj nds M L (tLoads acc l) := by
  induction l generalizing acc with
  | nil => exact trivial
  | cons x l ih => exact tj_bind (tj_load _ _) fun y => tj_if (ih _) trivial
theorem tj_store (hM : M ≤ 1000) (l : List Sn) : tj nds M L (tStore M l kp wy od nw) := by
  refine ⟨fun B s h hS => ⟨?_, rmake_in hM _ s⟩, fun n hn => ?_⟩
  · unfold gRMake
    split
    · rename_i hc
      have h' := h.mono (B' := B) (by omega)
      exact ⟨h'.len, h'.l64, h'.pl, h'.cnt, h'.flt, h'.frl, h'.fr, h'.now, h'.said, h'.que, by show (s.rs ++ [_]).length ≤ 1000; rw [List.length_append, List.length_singleton]; omega, h'.rc.2⟩
    · exact h.mono (by omega)
  · show tj nds M L (if n = 0 then _ else _)
    exact tj_if trivial (tj_bind (fun r _ _ => (tame_help r hn).toJ) fun _ => trivial)
theorem tj_change (hM : M ≤ 1000) (prs : List (Int × Nd)) : tj nds M L (tChange M prs kp wy od nw) := tj_bind (tj_loads [] prs) fun x => tj_if (tj_bind (tj_store hM _) fun y => trivial) trivial
end
section
variable {nds : List (Int × Nd)} {M : Nat} {d : Wd} {R R' X X' : Nat → Prop} {w w' w0 wr w1 : World} {a st ph k me p q : Nat} {wk T : Value} {zs ws : List Int} {c : Cur} {s : Sig} {n r : Int} {nd : Nd} {e : Ending} {kp wy od nw : Int}
/-- What work answers. -/
theorem BT.postW {P : Sig → Prop} {o : Out (List Int)} {v : List Int} {A : Option Addr} {m q : Nat} (h : BT P d R X w a me wk p o (.ret v) wr c s) (hb : Below wr.heap.size wr w') (hs : Sl w' A m q v) (hl : v.length ≤ 1000) : PostW d R w a wk idO o (.returned (.slice A m q)) w' := by
  rw [h.rn]
  exact ⟨h.kp.trans (Kp.below hb fun b e => h.lv.lt b (h.sub b (.inl e))), ⟨A, m, q, rfl, hs, hl⟩, (h.lv.mono fun b e => h.sub b (.inl e)).below hb⟩
theorem one_num (w : World) (z : Int) : ∃ (X : World) (b : Nat), w.alloc (.cells #[.int .i64 z] i6T) = X ∧ w.heap.size = b ∧ Below w.heap.size w X ∧ Sl X (some ⟨b, 0, none⟩) 1 1 [z] :=
  ⟨_, _, rfl, rfl, below_new _ _, sl_one9 (c_new rfl rfl)⟩
end
section
variable {W : World} {X : Nat → Prop} {d : Wd} {n T i L M : Nat} {hs : Nat → Hp} {os : Nat → Ts} {s s' : Sig} {w w' : World} {nds : List (Int × Nd)} {kp wy od nw : Int}
theorem five_boxes (w : World) (v : Value) (kp wy od nw : Int) : ∃ (Z : World) (b : Nat), ((((w.alloc (.cells #[v] 26)).alloc (.cells #[.int .i64 kp] 3)).alloc (.cells #[.int .i64 wy] 3)).alloc (.cells #[.int .i64 od] rfT)).alloc (.cells #[.int .i64 nw] rfT) = Z ∧ w.heap.size = b ∧ Below w.heap.size w Z ∧ Z.heap.size = b + 5 ∧ Z.cell? ⟨b, 0, none⟩ = some v ∧ Z.cell? ⟨b + 1, 0, none⟩ = some (.int .i64 kp) ∧ Z.cell? ⟨b + 2, 0, none⟩ = some (.int .i64 wy) ∧ Z.cell? ⟨b + 3, 0, none⟩ = some (.int .i64 od) ∧ Z.cell? ⟨b + 4, 0, none⟩ = some (.int .i64 nw) :=
  ⟨_, _, rfl, rfl, (((((Below.refl _ w).alloc (Nat.le_refl _) _).alloc (by simp) _).alloc (by simp; omega) _).alloc (by simp; omega) _).alloc (by simp; omega) _, by simp, c_old (c_old (c_old (c_old (c_new rfl rfl)))), c_old (c_old (c_old (c_new (by simp) rfl))), c_old (c_old (c_new (by simp) rfl)), c_old (c_new (by simp) rfl), c_new (by simp) rfl⟩
end
end Go.Proofs.Ytoeilogakfggfaa
