/-
  What arena's right (of a reference that isn't right), has, Way, SwapWay, Info, SwapInfo, Mark, SetMark return.
-/
import Derived.Test.YtmnbdhngadjmiaaAr3
namespace Go.Proofs.Ytmnbdhngadjmiaa
open Go.ChangeShapes Go.WideShapes Go.ChangeAt Go.RowKit
set_option linter.unusedVariables false
set_option linter.unusedSimpArgs false
set_option maxRecDepth 20000

def As.fault (S : As) : As := { S with flt := S.flt + 1 }

section
variable {F : Nat → Prop} {w : World} {a : Nat} {S : As} {l : List (Pa × Vs)} {P Q : Value}
theorem Ar.fault (h : Ar false F w a S l P Q) (k : Int) (hk : k = ((S.flt + 1 : Nat) : Int)) : Ar false F (w.setCell ⟨a, 3, none⟩ (.int .i64 k)) a S.fault l P Q := by
  subst hk
  exact h.setHead 3 _ (m := S.most) (f := S.flt + 1) (P' := P) (Q' := Q) (fr := S.fr) rfl rfl h.que h.fque

set_option maxHeartbeats 1000000 in
theorem right_no (h : Ar false F w a S l P Q) {r : Int} (hno : ∀ i, ¬ Hit S r i) (hl : S.pls.length ≤ 70000) (hc : ∀ p ∈ S.pls, p.cnt ≤ 1000000) (hf : S.flt ≤ 1000000) :
    Calls Try.prog 51 #[ptr a, .int .i64 r] w fun e w' => e = .returned nilp ∧ Ar false F w' a S.fault l P Q ∧ Only F w w' := by
  obtain ⟨c0, c1, c2, c3⟩ := h.head0
  have z3 := h.free 3
  have hln := h.lenP
  have HA : ∀ k : Int, k = ((S.flt + 1 : Nat) : Int) → Hid (Ar false F (w.setCell ⟨a, 3, none⟩ (.int .i64 k)) a S.fault l P Q ∧ Only F w (w.setCell ⟨a, 3, none⟩ (.int .i64 k))) := fun k hk => ⟨h.fault k hk, Only.set F w (p := ⟨a, 3, none⟩) h.fa _⟩
  have hfl : IntKind.i64.wrap ((S.flt : Int) + 1) = (S.flt : Int) + 1 := IntWalk.i64_in _ (by omega)
  by_cases h0 : 0 ≤ pl r
  · by_cases h1 : pl r < (l.length : Int)
    · obtain ⟨i, hi⟩ : ∃ i : Nat, pl r = (i : Int) := ⟨(pl r).toNat, by omega⟩
      have hil : i < l.length := by omega
      obtain ⟨x, hx⟩ : ∃ x, l[i]? = some x := ⟨_, List.getElem?_eq_getElem hil⟩
      obtain ⟨g, c, rfl, hg, hF, _, e0, e1, _, _, _, _, _, _, _, _, hz⟩ := h.cells0 hx
      have hsp : S.pls[i]? = some x.1 := by rw [h.pls, List.getElem?_map, hx]; rfl
      have hcn : x.1.cnt ≤ 1000000 := hc _ (List.mem_of_getElem? hsp)
      have HP := Lib.hid hi
      cases hu : x.1.used with
      | true =>
        have hmk : mk i x.1.cnt ≠ r := fun e => hno i ⟨_, hsp, hu, e⟩
        have hmk2 : (mk i x.1.cnt == r) = false := by simpa using hmk
        have HMK := Lib.hid hmk2
        rw [hu] at e0
        generalize x.1.cnt = n at *
        generalize hL : l.length = L at *
        have i0 : (0 : Int) ≤ (i : Int) := by omega
        have i1 : (i : Int) < (L : Int) := by omega
        clear hi h0 h1 hno hL hu hsp hx hmk hmk2 h
        go_enter Try.func51, Try.ntmps51
        go_wp2_with fail
        refine (place_walk r _).mono ?_
        rintro e w' ⟨rfl, rfl⟩
        rw [HP.out]
        go_wp2_with fail
        refine (of_walk i n (by omega) _).mono ?_
        rintro e w' ⟨rfl, rfl⟩
        have hmk3 := HMK.out
        go_wp2
        go_ret
        exact ⟨rfl, (HA _ (by omega)).out⟩
      | false =>
        rw [hu] at e0
        generalize hL : l.length = L at *
        have i0 : (0 : Int) ≤ (i : Int) := by omega
        have i1 : (i : Int) < (L : Int) := by omega
        clear hi h0 h1 hno hL hu hsp hx h
        go_enter Try.func51, Try.ntmps51
        go_wp2_with fail
        refine (place_walk r _).mono ?_
        rintro e w' ⟨rfl, rfl⟩
        rw [HP.out]
        go_wp2
        go_ret
        exact ⟨rfl, (HA _ (by omega)).out⟩
    · obtain ⟨A, c, rfl⟩ := h.shapeP
      generalize hL : l.length = L at *
      clear hno h hL
      go_enter Try.func51, Try.ntmps51
      go_wp2_with fail
      refine (place_walk r _).mono ?_
      rintro e w' ⟨rfl, rfl⟩
      go_wp2
      go_ret
      exact ⟨rfl, (HA _ (by omega)).out⟩
  · obtain ⟨A, c, rfl⟩ := h.shapeP
    generalize hL : l.length = L at *
    clear hno h hL
    go_enter Try.func51, Try.ntmps51
    go_wp2_with fail
    refine (place_walk r _).mono ?_
    rintro e w' ⟨rfl, rfl⟩
    have h2 : decide (0 ≤ pl r) = false := by simp; omega
    go_wp2
    go_ret
    exact ⟨rfl, (HA _ (by omega)).out⟩

theorem right_nil (r : Int) (w : World) : Calls Try.prog 51 #[nilp, .int .i64 r] w fun e w' => e = .returned nilp ∧ w = w' := by
  go_enter Try.func51, Try.ntmps51
  go_wp2
  go_ret
  exact ⟨rfl, rfl⟩

def hasB (m : Nat) (i : Int) : Bool := decide (0 ≤ i ∧ i < (m : Int))
set_option maxHeartbeats 400000 in
theorem has_walk (g o : Nat) (A : Option Addr) (m d : Nat) (i : Int) (w : World) (h : w.cell? ⟨g, o + 7, none⟩ = some (.slice A m d)) (hm : m ≤ 100000) :
    Calls Try.prog 53 #[.pointer (some ⟨g, o, none⟩), .int .i64 i] w fun e w' => e = .returned (.bool (hasB m i)) ∧ w = w' := by
  by_cases h0 : 0 ≤ i
  · go_enter Try.func53, Try.ntmps53
    go_wp2
    go_ret
    refine ⟨ret_bool ?_, rfl⟩
    simp [hasB, h0]
  · have h1 : decide (0 ≤ i) = false := by simp; omega
    go_enter Try.func53, Try.ntmps53
    go_wp2
    go_ret
    refine ⟨ret_bool ?_, rfl⟩
    simp [hasB]; omega
end
end Go.Proofs.Ytmnbdhngadjmiaa
