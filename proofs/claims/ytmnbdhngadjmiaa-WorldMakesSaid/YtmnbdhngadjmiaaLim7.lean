/-
  What epoch's Limbo returns.
-/
import Derived.Test.YtmnbdhngadjmiaaNew7
namespace Go.Proofs.Ytmnbdhngadjmiaa
open Go.ChangeShapes Go.WideShapes Go.ChangeAt Go.RowKit
set_option linter.unusedVariables false
set_option linter.unusedSimpArgs false
set_option maxRecDepth 20000

/-- How many nodes wait, of all threads. -/
def tot (S : List Tq) : Nat := (S.map (·.2.length)).sum
/-- Few threads, short queues. -/
def Few (S : List Tq) : Prop := S.length ≤ 64 ∧ ∀ x ∈ S, x.2.length ≤ 1000
theorem tot_take {S : List Tq} {k : Nat} {x : Tq} (h : S[k]? = some x) : tot (S.take (k + 1)) = tot (S.take k) + x.2.length := by
  have hk : k < S.length := (List.getElem?_eq_some_iff.1 h).1
  have e : S[k] = x := (List.getElem?_eq_some_iff.1 h).2
  unfold tot
  rw [List.take_succ_eq_append_getElem hk, e]
  simp
theorem tot_le {S : List Tq} (h : ∀ x ∈ S, x.2.length ≤ 1000) : tot S ≤ S.length * 1000 := by
  induction S with
  | nil => simp [tot]
  | cons x S ih =>
    have h1 := h x (List.mem_cons_self ..)
    have h2 := ih fun y hy => h y (List.mem_cons_of_mem _ hy)
    simp [tot] at h2 ⊢
    omega
theorem tot_few {S : List Tq} (h : Few S) (k : Nat) : tot (S.take k) ≤ 64000 := by
  have := tot_le (S := S.take k) fun x hx => h.2 x (List.mem_of_mem_take hx)
  have h2 := h.1
  rw [List.length_take] at this
  have : min k S.length * 1000 ≤ 64 * 1000 := Nat.mul_le_mul_right _ (by omega)
  omega

section
variable {F G : Nat → Prop} {w w' : World} {a i : Nat} {now : Int} {S : List Tq}
theorem limbo_nil (w : World) : Calls Try.prog 32 #[nilp] w fun e w' => e = .returned (.int .i64 0) ∧ w = w' := by
  go_enter Try.func32, Try.ntmps32
  go_wp2_with fail
  refine (len_nil _).mono ?_
  rintro e w1 ⟨rfl, rfl⟩
  go_wp2_with fail
  go_loopg [7, 3] 0 (fun gk i n wr => i = .int .i64 0 ∧ n = .int .i64 0 ∧ w = wr)
  case atStart => exact ⟨rfl, rfl, rfl⟩
  case round =>
    obtain ⟨rfl, rfl, rfl⟩ := hrel
    go_wp2
    go_ret
    exact ⟨rfl, rfl⟩
set_option maxHeartbeats 1000000 in
theorem limbo_walk (h : EpS F w a now S) (hS : Few S) : Calls Try.prog 32 #[ptr a] w fun e w' => e = .returned (.int .i64 (tot S : Int)) ∧ w = w' := by
  obtain ⟨l, T, k0, rfl⟩ := h
  have HK := Lib.hid k0
  have HF := Lib.hid hS
  obtain ⟨c0, c1⟩ := k0.cells
  have hl64 : l.length ≤ 64 := by have := hS.1; simpa using this
  obtain ⟨A, c, rfl⟩ := k0.qs.shape
  clear k0 hS c0
  obtain ⟨n, hn⟩ : ∃ n, l.length = n := ⟨_, rfl⟩
  rw [hn] at c1 HK hl64
  have HN := Lib.hid hn
  clear hn
  go_enter Try.func32, Try.ntmps32
  go_wp2_with fail
  refine (len_l HK.out).mono ?_
  rintro e w1 ⟨rfl, rfl⟩
  rw [HN.out]
  go_wp2_with fail
  go_loopg [7, 3] n (fun gk i m wr => ∃ (k : Nat), k + gk = n ∧ i = .int .i64 (k : Int) ∧ m = .int .i64 ((tot ((l.map (·.1)).take k) : Nat) : Int) ∧ w = wr)
  case atStart => exact ⟨0, by omega, rfl, rfl, rfl⟩
  case round =>
    obtain ⟨k, hk, rfl, rfl, rfl⟩ := hrel
    by_cases hlt : k < n
    case neg =>
      have i1 : ¬ ((k : Int) < (n : Int)) := by omega
      have HE : Hid (((tot ((l.map (·.1)).take k) : Nat) : Int) = ((tot (l.map (·.1)) : Nat) : Int)) := by
        show _ = _
        rw [List.take_of_length_le (by rw [List.length_map, HN.out]; omega)]
      clear HK HF HN
      go_wp2
      go_ret
      exact ⟨ret_int HE.out, rfl⟩
    obtain ⟨x, hx⟩ : ∃ x, l[k]? = some x := ⟨_, List.getElem?_eq_getElem (by have := HN.out; omega)⟩
    have hx1 : (l.map (·.1))[k]? = some x.1 := by rw [List.getElem?_map, hx]; rfl
    obtain ⟨g, c', hT, -, -, -, -, d1, -⟩ := HK.out.at_ hx
    injection hT with hT _ _
    subst hT
    obtain ⟨B, d, hv⟩ := (HK.out.qs.que x (List.mem_of_getElem? hx)).form
    rw [hv] at d1
    have h1 := tot_take hx1
    have h2 := tot_few HF.out (k + 1)
    generalize hm1 : tot ((l.map (·.1)).take k) = m1 at *
    generalize hm2 : tot ((l.map (·.1)).take (k + 1)) = m2 at *
    have H2 := Lib.hid hm2
    generalize x.1.2.length = y at *
    have i0 : (0 : Int) ≤ (k : Int) := by omega
    have i1 : (k : Int) < (n : Int) := by omega
    have hkw : IntKind.i64.wrap ((k : Int) + 1) = (k : Int) + 1 := IntWalk.i64_in _ (by omega)
    have hmw : IntKind.i64.wrap ((m1 : Int) + (y : Int)) = (m2 : Int) := by
      rw [h1, Int.natCast_add]
      exact IntWalk.i64_in _ (by omega)
    clear hv hm1 hm2 HK HF hx hx1 h1
    go_wp2
    go_roundg (gk - 1)
    case measure => omega
    case rel => exact ⟨k + 1, by omega, by go_num, by rw [H2.out], rfl⟩
end
end Go.Proofs.Ytmnbdhngadjmiaa
