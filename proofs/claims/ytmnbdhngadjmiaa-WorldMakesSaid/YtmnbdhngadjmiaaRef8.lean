/-
  What ref's Of and Place and the document's Of reckon and return, in plain numbers; none changes the world. Words for cells of blocks that were made just now.
-/
import Derived.Test.YtmnbdhngadjmiaaOwn8
import Derived.Laws.Bits64
import Derived.Laws.BitsAllLaws
import Derived.ProofKit
import Derived.OpenShut
import Derived.WalkSpells
import Derived.BigQuiet
import Derived.Handy
import Derived.Deep.QuietTactic
import Derived.Deep.RegionHeld3
import Derived.Deep.DeepMust
namespace Go.Proofs.Ytmnbdhngadjmiaa
open Go.ChangeShapes Go.WideShapes Go.ChangeAt Go.RowKit
set_option linter.unusedVariables false

/-- A place and a count as a reference. -/
def mk (p c : Int) : Int := c % 8388608 * 1099511627776 + (p + 1) % 1099511627776
/-- A reference's place. -/
def pl (r : Int) : Int := r % 1099511627776 - 1
/-- A reference's count. -/
def ct (r : Int) : Int := r / 1099511627776 % 8388608

theorem low_mask (a : Int) (h0 : 0 ≤ a) (h1 : a < 18446744073709551616) : bits .and .u64 a 1099511627775 = a % 1099511627776 := by
  rw [u64_and a _ h0 h1 (by decide) (by decide)]
  have e : a.toNat &&& (1099511627775 : Int).toNat = a.toNat % 1099511627776 := Nat.and_two_pow_sub_one_eq_mod a.toNat 40
  rw [e]
  omega

theorem count_mask (a : Int) (h0 : 0 ≤ a) (h1 : a < 18446744073709551616) : bits .and .u64 a 8388607 = a % 8388608 := by
  rw [u64_and a _ h0 h1 (by decide) (by decide)]
  have e : a.toNat &&& (8388607 : Int).toNat = a.toNat % 8388608 := Nat.and_two_pow_sub_one_eq_mod a.toNat 23
  rw [e]
  omega

theorem count_mask32 (a : Int) (h0 : 0 ≤ a) (h1 : a < 4294967296) : bits .and .u32 a 8388607 = a % 8388608 := by
  rw [u32_and a _ h0 h1 (by decide) (by decide)]
  have e : a.toNat &&& (8388607 : Int).toNat = a.toNat % 8388608 := Nat.and_two_pow_sub_one_eq_mod a.toNat 23
  rw [e]
  omega

theorem both_join (h l : Int) (h0 : 0 ≤ h) (h1 : h < 8388608) (l0 : 0 ≤ l) (l1 : l < 1099511627776) : bits .or .u64 (h * 1099511627776) l = h * 1099511627776 + l := by
  rw [u64_or _ _ (by omega) (by omega) l0 (by omega)]
  have e : (h * 1099511627776).toNat ||| l.toNat = (h * 1099511627776).toNat + l.toNat := nat_join 40 _ _ (by omega) (by omega)
  rw [e]
  omega

theorem of_plain (p c : Int) (hc : 0 ≤ c ∧ c ≤ 4294967295) :
    wrap64 (bits BinOp.or IntKind.u64 (IntKind.u64.wrap (bits BinOp.and IntKind.u64 c 8388607 * 1099511627776))
      (bits BinOp.and IntKind.u64 (IntKind.u64.wrap (IntKind.u64.wrap p + 1)) 1099511627775)) = mk p c := by
  unfold mk
  simp only [IntKind.wrap_u64]
  rw [count_mask c (by omega) (by omega), low_mask _ (by omega) (by omega)]
  have e : c % 8388608 * 1099511627776 % 18446744073709551616 = c % 8388608 * 1099511627776 := by omega
  rw [e, both_join _ _ (by omega) (by omega) (by omega) (by omega), IntWalk.wrap64_in _ (by omega)]
  omega

theorem place_plain (r : Int) :
    wrap64 (wrap64 (bits BinOp.and IntKind.u64 (IntKind.u64.wrap r) 1099511627775) - 1) = pl r := by
  unfold pl
  simp only [IntKind.wrap_u64]
  rw [low_mask _ (by omega) (by omega)]
  rw [IntWalk.wrap64_in (r % 18446744073709551616 % 1099511627776) (by omega), IntWalk.wrap64_in _ (by omega)]
  omega

theorem count_plain (r : Int) :
    bits BinOp.and IntKind.u32 (IntKind.u64.wrap r / 1099511627776 % 4294967296) 8388607 = ct r := by
  unfold ct
  simp only [IntKind.wrap_u64]
  rw [count_mask32 _ (by omega) (by omega)]
  omega

theorem tmod_two (a m : Int) : (0 ≤ a ∧ a.tmod m = a % m) ∨ (a < 0 ∧ a.tmod m = -(-a % m)) := by
  by_cases h : 0 ≤ a
  · exact .inl ⟨h, Int.tmod_eq_emod_of_nonneg h⟩
  · refine .inr ⟨by omega, ?_⟩
    rw [← Int.tmod_eq_emod_of_nonneg (show 0 ≤ -a by omega), Int.neg_tmod, Int.neg_neg]

theorem tdiv_two (a m : Int) : (0 ≤ a ∧ a.tdiv m = a / m) ∨ (a < 0 ∧ a.tdiv m = -(-a / m)) := by
  by_cases h : 0 ≤ a
  · exact .inl ⟨h, Int.tdiv_eq_ediv_of_nonneg h⟩
  · refine .inr ⟨by omega, ?_⟩
    rw [← Int.tdiv_eq_ediv_of_nonneg (show 0 ≤ -a by omega), Int.neg_tdiv, Int.neg_neg]

theorem mk_range (p c : Int) : 0 ≤ mk p c ∧ mk p c ≤ 9223372036854775807 := by unfold mk; omega
theorem pl_mk (p c : Int) : pl (mk p c) = (p + 1) % 1099511627776 - 1 := by unfold pl mk; omega
theorem ct_mk (p c : Int) : ct (mk p c) = c % 8388608 := by unfold ct mk; omega
theorem of_walk (p c : Int) (hc : 0 ≤ c ∧ c ≤ 4294967295) (w : World) :
    Calls Try.prog 12 #[.int .i64 p, .int .u32 c] w fun e w' => e = .returned (.int .i64 (mk p c)) ∧ w = w' := by
  rw [← of_plain p c hc]
  go_enter Try.func12, Try.ntmps12
  go_wp2
  go_ret
  exact ⟨rfl, rfl⟩

theorem place_walk (r : Int) (w : World) :
    Calls Try.prog 66 #[.int .i64 r] w fun e w' => e = .returned (.int .i64 (pl r)) ∧ w = w' := by
  rw [← place_plain r]
  go_enter Try.func66, Try.ntmps66
  go_wp2
  go_ret
  exact ⟨rfl, rfl⟩

end Go.Proofs.Ytmnbdhngadjmiaa
