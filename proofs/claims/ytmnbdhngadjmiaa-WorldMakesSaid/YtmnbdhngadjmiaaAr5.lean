/-
  What arena's Way, SwapWay, Info, SwapInfo, Mark and SetMark return: of a right reference, of one that isn't, of no arena.
-/
import Derived.Test.YtmnbdhngadjmiaaAr4
namespace Go.Proofs.Ytmnbdhngadjmiaa
open Go.ChangeShapes Go.WideShapes Go.ChangeAt Go.RowKit
set_option linter.unusedVariables false
set_option linter.unusedSimpArgs false
set_option maxRecDepth 20000

/-- As many places, uses and faults as can be counted. -/
structure Ok (S : As) : Prop where
  len : S.pls.length ≤ 70000
  cnt : ∀ p ∈ S.pls, p.cnt ≤ 1000000
  flt : S.flt ≤ 1000000
  fr : S.fr.length ≤ 70000

/-- Way k of a place. -/
def wayAt (p : Pa) (k : Int) : Int := if hasB p.ws.length k then p.ws.getD k.toNat 0 else 0
theorem hasB_nat {m : Nat} {k : Int} (h : hasB m k = true) : ∃ j : Nat, k = (j : Int) ∧ j < m := by
  simp [hasB] at h; exact ⟨k.toNat, by omega, by omega⟩

section
variable {F : Nat → Prop} {w : World} {a : Nat} {S : As} {i : Nat} {p : Pa} {r : Int}
/-- What the walks of a right reference take of an arena. -/
theorem open_yes (h : Arn false F w a S) (hok : Ok S) (hp : S.pls[i]? = some p) (hu : p.used = true) (hr : mk i p.cnt = r) : ∃ (v : Vs) (l : List (Pa × Vs)) (Q : Value) (g c : Nat), Ar false F w a S l (.slice (some ⟨g, 0, none⟩) l.length c) Q ∧ l[i]? = some (p, v) ∧ g < w.heap.size ∧ F g ∧
    Hid (Calls Try.prog 51 #[ptr a, .int .i64 r] w fun e w' => e = .returned (.pointer (some ⟨g, i * 10, none⟩)) ∧ w = w') ∧
    w.cell? ⟨g, i * 10 + 2, none⟩ = some (.bool p.nd.inn) ∧ w.cell? ⟨g, i * 10 + 3, none⟩ = some (.bool p.nd.tag) ∧ w.cell? ⟨g, i * 10 + 4, none⟩ = some v.pv ∧ w.cell? ⟨g, i * 10 + 5, none⟩ = some v.kv ∧ w.cell? ⟨g, i * 10 + 6, none⟩ = some v.zv ∧ w.cell? ⟨g, i * 10 + 7, none⟩ = some v.wv ∧ w.cell? ⟨g, i * 10 + 8, none⟩ = some (.int .i64 p.info) ∧ w.cell? ⟨g, i * 10 + 9, none⟩ = some (.bool p.mark) ∧ ∀ j, w.frozen? ⟨g, j, none⟩ = false := by
  obtain ⟨l, P, Q, h⟩ := h
  obtain ⟨⟨p', v⟩, hx, rfl⟩ := h.at_ hp
  obtain ⟨g, c, rfl, hg, hF, hil, e0, e1, e2, e3, e4, e5, e6, e7, e8, e9, hz⟩ := h.cells0 hx
  exact ⟨v, l, Q, g, c, h, hx, hg, hF, right_yes h hx hu hr hok.len (hok.cnt _ (List.mem_of_getElem? hp)) rfl, e2, e3, e4, e5, e6, e7, e8, e9, hz⟩
theorem open_no (h : Arn false F w a S) (hok : Ok S) (hno : ∀ i, ¬ Hit S r i) : Calls Try.prog 51 #[ptr a, .int .i64 r] w fun e w' => e = .returned nilp ∧ Arn false F w' a S.fault ∧ Only F w w' := by
  obtain ⟨l, P, Q, h⟩ := h
  exact (right_no h hno hok.len hok.cnt hok.flt).mono fun e w' ⟨h1, h2, h3⟩ => ⟨h1, ⟨_, _, _, h2⟩, h3⟩
/-- The row of ways of a place. -/
theorem open_ways {l : List (Pa × Vs)} {P Q : Value} {v : Vs} (h : Ar false F w a S l P Q) (hx : l[i]? = some (p, v)) : ∃ A c, v.wv = .slice A p.ws.length c ∧ Sl w A p.ws.length c p.ws ∧ p.ws.length ≤ 100 := by
  have hm := h.mem _ (List.mem_of_getElem? hx)
  obtain ⟨A, c, e, s⟩ := hm.ws.form
  exact ⟨A, c, e, s, hm.few⟩

set_option maxHeartbeats 1000000 in
theorem way_yes (h : Arn false F w a S) (hok : Ok S) (hp : S.pls[i]? = some p) (hu : p.used = true) (hr : mk i p.cnt = r) (k : Int) :
    Calls Try.prog 14 #[ptr a, .int .i64 r, .int .i64 k] w fun e w' => e = .returned (.int .i64 (wayAt p k)) ∧ w = w' := by
  obtain ⟨v, l, Q, g, c, hA, hx, hg, hF, HR, e2, e3, e4, e5, e6, e7, e8, e9, hz⟩ := open_yes h hok hp hu hr
  obtain ⟨A, c', hv, hs, hfew⟩ := open_ways hA hx
  rw [hv] at e7
  clear h hp hu hr hA hx hz e2 e3 e4 e5 e6 e8 e9
  cases hh : hasB p.ws.length k with
  | false =>
    have HH := Lib.hid hh
    have HW : Hid (wayAt p k = 0) := by show _ = _; rw [wayAt, hh]; rfl
    clear hh hs
    go_enter Try.func14, Try.ntmps14
    go_wp2_with fail
    refine HR.out.mono ?_
    rintro e w' ⟨rfl, rfl⟩
    go_wp2_with fail
    refine (has_walk g (i * 10) _ _ _ k w e7 (by omega)).mono ?_
    rintro e w' ⟨rfl, rfl⟩
    rw [HH.out]
    go_wp2
    go_ret
    exact ⟨ret_int HW.out.symm, rfl⟩
  | true =>
    have HH := Lib.hid hh
    obtain ⟨j, rfl, hj⟩ := hasB_nat hh
    obtain ⟨b, off, rfl, hb, c1⟩ := hs.at0 hj
    have HW : Hid (wayAt p j = p.ws.getD j 0) := by show _ = _; rw [wayAt, hh]; simp
    have j0 : (0 : Int) ≤ (j : Int) := by omega
    have j1 : (j : Int) < (p.ws.length : Int) := by omega
    clear hh hs hv
    generalize p.ws.getD j 0 = z at *
    generalize p.ws.length = L at *
    go_enter Try.func14, Try.ntmps14
    go_wp2_with fail
    refine HR.out.mono ?_
    rintro e w' ⟨rfl, rfl⟩
    go_wp2_with fail
    refine (has_walk g (i * 10) _ _ _ _ w e7 (by omega)).mono ?_
    rintro e w' ⟨rfl, rfl⟩
    rw [HH.out]
    go_wp2
    go_ret
    exact ⟨ret_int HW.out.symm, rfl⟩

set_option maxHeartbeats 400000 in
theorem way_no (h : Arn false F w a S) (hok : Ok S) (hno : ∀ i, ¬ Hit S r i) (k : Int) :
    Calls Try.prog 14 #[ptr a, .int .i64 r, .int .i64 k] w fun e w' => e = .returned (.int .i64 0) ∧ Arn false F w' a S.fault ∧ Only F w w' := by
  have HR := Lib.hid (open_no h hok hno)
  clear h hno
  go_enter Try.func14, Try.ntmps14
  go_wp2_with fail
  refine HR.out.mono ?_
  rintro e w' ⟨rfl, h2, h3⟩
  go_wp2
  go_ret
  exact ⟨rfl, h2, h3⟩
theorem way_nil (r : Int) (k : Int) (w : World) :
    Calls Try.prog 14 #[nilp, .int .i64 r, .int .i64 k] w fun e w' => e = .returned (.int .i64 0) ∧ w = w' := by
  go_enter Try.func14, Try.ntmps14
  go_wp2_with fail
  refine (right_nil r _).mono ?_
  rintro e w' ⟨rfl, rfl⟩
  go_wp2
  go_ret
  exact ⟨rfl, rfl⟩

end
end Go.Proofs.Ytmnbdhngadjmiaa
