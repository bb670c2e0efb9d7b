/-
  What ref's Of and Place and the document's Of reckon and return, in plain numbers; none changes the world. Words for cells of blocks that were made just now.
-/
import Derived.Test.YtbalhjfkkigchaaNums
import Derived.Laws.Bits64
import Derived.Laws.BitsAllLaws
import Derived.ProofKit
import Derived.OpenShut
import Derived.WalkSpells
import Derived.BigQuiet
import Derived.Handy
import Derived.Deep.QuietTactic
import Derived.Deep.RegionHeld3
import Derived.Deep.DeepMust
namespace Go.Proofs.Ytbalhjfkkigchaa
open Go.ChangeShapes Go.WideShapes Go.ChangeAt Go.RowKit
set_option linter.unusedVariables false

theorem ret_int {k : IntKind} {a b : Int} (h : a = b) : Ending.returned (.int k a) = .returned (.int k b) := by rw [h]
theorem ret_bool {a b : Bool} (h : a = b) : Ending.returned (.bool a) = .returned (.bool b) := by rw [h]
theorem Sl.at0 {w : World} {A : Option Addr} {n c : Nat} {zs : List Int} (h : Sl w A n c zs) {k : Nat} (hk : k < n) : ∃ b off, A = some ⟨b, off, none⟩ ∧ b < w.heap.size ∧ w.cell? ⟨b, off + k, none⟩ = some (.int .i64 (zs.getD k 0)) := by
  have hl : k < zs.length := by rw [← h.len]; exact hk
  obtain ⟨b, off, e, hb, hc⟩ := h.at_ hl
  exact ⟨b, off, e, hb, by rw [hc]; simp [List.getD, hl]⟩
theorem Row.sl {el : TypeId} {base : Nat} {w : World} {A : Option Addr} {n c : Nat} {zs : List Int} (h : Row el base w (.slice A n c) zs) : Sl w A n c zs := by
  obtain ⟨_, _, e, s⟩ := h.form
  injection e with e1 e2 e3
  subst e1 e2 e3
  exact s
/-- A place and a count as a reference. -/
def mk (p c : Int) : Int := c % 8388608 * 1099511627776 + (p + 1) % 1099511627776
/-- A reference's place. -/
def pl (r : Int) : Int := r % 1099511627776 - 1
/-- A reference's count. -/
def ct (r : Int) : Int := r / 1099511627776 % 8388608

theorem low_mask (a : Int) (h0 : 0 ≤ a) (h1 : a < 18446744073709551616) : bits .and .u64 a 1099511627775 = a % 1099511627776 := by
  rw [u64_and a _ h0 h1 (by decide) (by decide)]
  have e : a.toNat &&& (1099511627775 : Int).toNat = a.toNat % 1099511627776 := Nat.and_two_pow_sub_one_eq_mod a.toNat 40
  rw [e]
  omega

theorem count_mask (a : Int) (h0 : 0 ≤ a) (h1 : a < 18446744073709551616) : bits .and .u64 a 8388607 = a % 8388608 := by
  rw [u64_and a _ h0 h1 (by decide) (by decide)]
  have e : a.toNat &&& (8388607 : Int).toNat = a.toNat % 8388608 := Nat.and_two_pow_sub_one_eq_mod a.toNat 23
  rw [e]
  omega

theorem count_mask32 (a : Int) (h0 : 0 ≤ a) (h1 : a < 4294967296) : bits .and .u32 a 8388607 = a % 8388608 := by
  rw [u32_and a _ h0 h1 (by decide) (by decide)]
  have e : a.toNat &&& (8388607 : Int).toNat = a.toNat % 8388608 := Nat.and_two_pow_sub_one_eq_mod a.toNat 23
  rw [e]
  omega

theorem both_join (h l : Int) (h0 : 0 ≤ h) (h1 : h < 8388608) (l0 : 0 ≤ l) (l1 : l < 1099511627776) : bits .or .u64 (h * 1099511627776) l = h * 1099511627776 + l := by
  rw [u64_or _ _ (by omega) (by omega) l0 (by omega)]
  have e : (h * 1099511627776).toNat ||| l.toNat = (h * 1099511627776).toNat + l.toNat := nat_join 40 _ _ (by omega) (by omega)
  rw [e]
  omega

theorem of_plain (p c : Int) (hc : 0 ≤ c ∧ c ≤ 4294967295) :
    wrap64 (bits BinOp.or IntKind.u64 (IntKind.u64.wrap (bits BinOp.and IntKind.u64 c 8388607 * 1099511627776))
      (bits BinOp.and IntKind.u64 (IntKind.u64.wrap (IntKind.u64.wrap p + 1)) 1099511627775)) = mk p c := by
  unfold mk
  simp only [IntKind.wrap_u64]
  rw [count_mask c (by omega) (by omega), low_mask _ (by omega) (by omega)]
  have e : c % 8388608 * 1099511627776 % 18446744073709551616 = c % 8388608 * 1099511627776 := by omega
  rw [e, both_join _ _ (by omega) (by omega) (by omega) (by omega), IntWalk.wrap64_in _ (by omega)]
  omega

theorem place_plain (r : Int) :
    wrap64 (wrap64 (bits BinOp.and IntKind.u64 (IntKind.u64.wrap r) 1099511627775) - 1) = pl r := by
  unfold pl
  simp only [IntKind.wrap_u64]
  rw [low_mask _ (by omega) (by omega)]
  rw [IntWalk.wrap64_in (r % 18446744073709551616 % 1099511627776) (by omega), IntWalk.wrap64_in _ (by omega)]
  omega

theorem count_plain (r : Int) :
    bits BinOp.and IntKind.u32 (IntKind.u64.wrap r / 1099511627776 % 4294967296) 8388607 = ct r := by
  unfold ct
  simp only [IntKind.wrap_u64]
  rw [count_mask32 _ (by omega) (by omega)]
  omega

theorem tmod_two (a m : Int) : (0 ≤ a ∧ a.tmod m = a % m) ∨ (a < 0 ∧ a.tmod m = -(-a % m)) := by
  by_cases h : 0 ≤ a
  · exact .inl ⟨h, Int.tmod_eq_emod_of_nonneg h⟩
  · refine .inr ⟨by omega, ?_⟩
    rw [← Int.tmod_eq_emod_of_nonneg (show 0 ≤ -a by omega), Int.neg_tmod, Int.neg_neg]

theorem tdiv_two (a m : Int) : (0 ≤ a ∧ a.tdiv m = a / m) ∨ (a < 0 ∧ a.tdiv m = -(-a / m)) := by
  by_cases h : 0 ≤ a
  · exact .inl ⟨h, Int.tdiv_eq_ediv_of_nonneg h⟩
  · refine .inr ⟨by omega, ?_⟩
    rw [← Int.tdiv_eq_ediv_of_nonneg (show 0 ≤ -a by omega), Int.neg_tdiv, Int.neg_neg]

theorem mk_range (p c : Int) : 0 ≤ mk p c ∧ mk p c ≤ 9223372036854775807 := by unfold mk; omega
theorem pl_mk (p c : Int) : pl (mk p c) = (p + 1) % 1099511627776 - 1 := by unfold pl mk; omega
theorem ct_mk (p c : Int) : ct (mk p c) = c % 8388608 := by unfold ct mk; omega
theorem of_walk (p c : Int) (hc : 0 ≤ c ∧ c ≤ 4294967295) (w : World) :
    Calls Try.prog 20 #[.int .i64 p, .int .u32 c] w fun e w' => e = .returned (.int .i64 (mk p c)) ∧ w = w' := by
  rw [← of_plain p c hc]
  go_enter Try.func20, Try.ntmps20
  go_wp2
  go_ret
  exact ⟨rfl, rfl⟩

theorem place_walk (r : Int) (w : World) :
    Calls Try.prog 21 #[.int .i64 r] w fun e w' => e = .returned (.int .i64 (pl r)) ∧ w = w' := by
  rw [← place_plain r]
  go_enter Try.func21, Try.ntmps21
  go_wp2
  go_ret
  exact ⟨rfl, rfl⟩

theorem refOf_low (p : Int) (h : p.tmod 1099511627776 < 0) : (wrap64 (wrap64 (p.tmod 1099511627776 + 1099511627776) + 1)).tmod 1099511627776 = (p + 1) % 1099511627776 := by
  have h1 := tmod_two p 1099511627776
  generalize p.tmod 1099511627776 = t at *
  rw [IntWalk.wrap64_in (t + 1099511627776) (by omega), IntWalk.wrap64_in _ (by omega)]
  have h2 := tmod_two (t + 1099511627776 + 1) 1099511627776
  omega

theorem refOf_high (p : Int) (h : 0 ≤ p.tmod 1099511627776) : (wrap64 (p.tmod 1099511627776 + 1)).tmod 1099511627776 = (p + 1) % 1099511627776 := by
  have h1 := tmod_two p 1099511627776
  generalize p.tmod 1099511627776 = t at *
  rw [IntWalk.wrap64_in _ (by omega)]
  have h2 := tmod_two (t + 1) 1099511627776
  omega

theorem refOf_walk (p c : Int) (hc : 0 ≤ c ∧ c ≤ 4294967295) (w : World) :
    Calls Try.prog 42 #[.int .i64 p, .int .u32 c] w fun e w' => e = .returned (.int .i64 (mk p c)) ∧ w = w' := by
  go_enter Try.func42, Try.ntmps42
  go_wp2
  all_goals go_ret
  · refine ⟨?_, rfl⟩
    show Ending.returned (Value.int _ _) = _
    rw [refOf_low p ‹_›, IntWalk.wrap64_in _ (by omega)]
    rfl
  · refine ⟨?_, rfl⟩
    show Ending.returned (Value.int _ _) = _
    rw [refOf_high p ‹_›, IntWalk.wrap64_in _ (by omega)]
    rfl

theorem below_new (w : World) (o : Obj) : Below w.heap.size w (w.alloc o) := (Below.refl _ w).alloc (Nat.le_refl _) o

/-- Cells of blocks that were made just now. -/
theorem c_new {w : World} {cs : Array Value} {t : TypeId} {b j : Nat} {v : Value} (h : w.heap.size = b) (hj : cs[j]? = some v) : (w.alloc (.cells cs t)).cell? ⟨b, j, none⟩ = some v := by
  subst h
  rw [cell_of_row _ _ _ cs t (0, 0) (heap_alloc_new w _)]
  exact hj
theorem c_old {w : World} {o : Obj} {p : Addr} {v : Value} (h : w.cell? p = some v) : (w.alloc o).cell? p = some v := (World.cell?_alloc_lt w o p (World.block_lt_of_cell? w p h)).trans h
theorem c_top {w : World} {cs : Array Value} {t : TypeId} {b j : Nat} {v : Value} (h : w.heap.size = b) (hj : cs[j]? = some v) : (w.alloc (.cells cs t)).drew.cell? ⟨b, j, none⟩ = some v := c_new h hj
theorem c_one {w : World} {cs : Array Value} {t : TypeId} {b j : Nat} {v : Value} {o : Obj} (h : w.heap.size = b) (hj : cs[j]? = some v) : ((w.alloc (.cells cs t)).alloc o).drew.cell? ⟨b, j, none⟩ = some v := c_old (c_new h hj)
theorem c_two {w : World} {cs : Array Value} {t : TypeId} {b j : Nat} {v : Value} {o o' : Obj} (h : w.heap.size = b) (hj : cs[j]? = some v) : (((w.alloc (.cells cs t)).alloc o).alloc o').drew.cell? ⟨b, j, none⟩ = some v := c_old (c_old (c_new h hj))
theorem c_thr {w : World} {cs : Array Value} {t : TypeId} {b j : Nat} {v : Value} {o o' o'' : Obj} (h : w.heap.size = b) (hj : cs[j]? = some v) : ((((w.alloc (.cells cs t)).alloc o).alloc o').alloc o'').drew.cell? ⟨b, j, none⟩ = some v := c_old (c_old (c_old (c_new h hj)))
theorem below_read {W w' : World} {p : Addr} {v : Value} (hb : Below W.heap.size W w') (h : W.cell? p = some v) : w'.cell? p = some v := (hb.cell (World.block_lt_of_cell? W p h)).trans h

theorem h_new {w : World} {o : Obj} {b : Nat} (h : w.heap.size = b) : (w.alloc o).heap[b]? = some o := by subst h; exact heap_alloc_new w o
theorem h_old {w : World} {o o' : Obj} {b : Nat} (h : w.heap[b]? = some o) : (w.alloc o').heap[b]? = some o := (Below.heap_alloc w o' b (Array.getElem?_eq_some_iff.1 h).1).trans h
/-- A row without elements that was built at block g. -/
theorem Row.of_block {el : TypeId} {base g : Nat} {w : World} (h : w.heap[g]? = some (.cells #[] el (0, 0))) (hb : base ≤ g) : Row el base w (.slice (some ⟨g, 0, none⟩) 0 0) [] :=
  ⟨rfl, .inr ⟨g, 0, #[], rfl, hb, h, Nat.le_refl _, Nat.zero_le _, rfl, rfl⟩⟩

theorem h_newd {w : World} {o : Obj} {b : Nat} (h : w.heap.size = b) : (w.alloc o).drew.heap[b]? = some o := h_new h
theorem h_oldd {w : World} {o o' : Obj} {b : Nat} (h : w.heap[b]? = some o) : (w.alloc o').drew.heap[b]? = some o := h_old h

/-- 'append(out, src...)' at a step of a region that draws; what else there is of unlike rows stays. -/
theorem step_pushB {sl el : TypeId} (R : RowT sl el) {ops : Array Oper} {o : Oper} {a : Act} {Q : Exit → Act → World → Prop} {base : Nat} {w : World} {K : Act → World → Prop} {E : Prop} (hg : o.guard = none) (s x : Operand) (ho : o.op = .call { callee := .builtin .append, args := #[s, x], argTypes := #[sl, sl] })
    (v : Value) (zs : List Int) (hs : a.eval s = v) (hown : Row el base w v zs) (A : Option Addr) (n c : Nat) (ms : List Int) (hx : a.eval x = .slice A n c) (hm : Sl w A n c ms) (hlen : zs.length + ms.length ≤ 100000) (hb : base ≤ w.heap.size)
    (h : ∀ v' w', Row el base w' v' (zs ++ ms) → Below base w w' → (∀ el' b' v'' zs', el' ≠ el → Row el' b' w v'' zs' → Row el' b' w' v'' zs') → K (a.put o.dst v') w') :
    if Region.wanted o (yielded ops a.tmps) = true then Oper.wp Try.prog o a w K Q else E :=
  step_pushAll R hg s x ho v zs hs hown A n c ms hx hm hlen hb fun v' w' h1 h2 => h v' w' h1 ((Below.refl _ w).grown h2 hb fun k hk => (World.ownsRow.lt hown k hk).1) fun _ _ _ _ hne hr => hr.grown h2 (hr.apart hown hne)

theorem grown_set (w : World) (p : Addr) (u : Value) : w.grownBy (w.setCell p u) (some p.block) := ⟨rfl, rfl, rfl, by simp, fun k _ hk => heap_setCell_other w p k u (fun e => hk (by rw [e]))⟩
end Go.Proofs.Ytbalhjfkkigchaa
