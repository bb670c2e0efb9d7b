/-
  Mixed, of two threads, whatever holds of them.
-/
import Derived.Test.YtoeilogakfggfaaRr10
import Derived.Test.YtoeilogakfggfaaSk10
namespace Go.Proofs.Ytoeilogakfggfaa
open Go.ChangeShapes Go.WideShapes Go.ChangeAt Go.RowKit
set_option linter.unusedVariables false
set_option linter.unusedSimpArgs false
set_option maxRecDepth 20000

/-- What Alone answers of a thread that comes to its end. -/
def AloneR (F : World → Prop) (e : Ending) (w' : World) : Prop := ∃ A q c z, e = .returned (.tuple #[.slice A q c, .int .i64 z, .bool true]) ∧ F w'
def St3 (P Q R : World → Prop) (i : Nat) (w : World) : Prop := match i with
  | 0 => P w
  | 1 => Q w
  | _ => R w
set_option maxHeartbeats 4000000 in
theorem mixed2_walk {w : World} {gl a0 a1 : Nat} {B : Option Addr} {k e : Nat} {l : List Int} {E : Nat → World → Prop} {F G : World → Prop} (hk : k ≤ 200) (hE : E 0 w)
    (hc : ∀ j w, E j w → w.cell? ⟨gl, 0, none⟩ = some (ptr a0) ∧ w.cell? ⟨gl, 1, none⟩ = some (ptr a1) ∧ Sk .u8 0 255 w B k l)
    (hs0 : ∀ j w, j < k → E j w → Calls Try.prog 36 #[ptr a0] w fun e w' => (∃ b, e = .returned (.bool b)) ∧ E (j + 1) w')
    (hs1 : ∀ j w, j < k → E j w → Calls Try.prog 36 #[ptr a1] w fun e w' => (∃ b, e = .returned (.bool b)) ∧ E (j + 1) w')
    (ha0 : ∀ w, E k w → Calls Try.prog 11 #[ptr a0] w (AloneR F))
    (hcF : ∀ w, F w → w.cell? ⟨gl, 1, none⟩ = some (ptr a1))
    (ha1 : ∀ w, F w → Calls Try.prog 11 #[ptr a1] w (AloneR G)) :
    Calls Try.prog 26 #[.slice (some ⟨gl, 0, none⟩) 2 2, .slice B k e] w fun e w' => e = .returned (.bool true) ∧ G w' := by
  have HE := Lib.hid hE
  have HC := Lib.hid hc
  have HS0 := Lib.hid hs0
  have HS1 := Lib.hid hs1
  have HA0 := Lib.hid ha0
  have HA1 := Lib.hid ha1
  have HCF := Lib.hid hcF
  clear hE hc hs0 hs1 ha0 ha1 hcF
  go_enter Try.func26, Try.ntmps26
  go_wp2_with fail
  go_loopg [17] k (fun gk iv wr => ∃ j : Nat, j + gk = k ∧ iv = .int .i64 (j : Int) ∧ Hid (E j wr))
  case atStart => exact ⟨0, by omega, rfl, HE⟩
  case round =>
    clear HE
    obtain ⟨j, hj, rfl, HH⟩ := hrel
    by_cases hlt : j < k
    case neg =>
      have i1 : ¬ ((j : Int) < (k : Int)) := by omega
      obtain rfl : j = k := by omega
      have HM : Hid (St3 (E j) F G 0 wr) := HH.out
      go_wp2_with fail
      go_loopg [33] 2 (fun gk iv wr => ∃ i : Nat, i + gk = 2 ∧ iv = .int .i64 (i : Int) ∧ Hid (St3 (E j) F G i wr))
      case atStart => exact ⟨0, rfl, rfl, HM⟩
      case round =>
        clear HM HH
        obtain ⟨i, hi, rfl, HH⟩ := hrel
        have h3 : i = 0 ∨ i = 1 ∨ i = 2 := by omega
        rcases h3 with rfl | rfl | rfl
        · have hh : E j wr := HH.out
          have hcc := (HC.out j wr hh).1
          have HA := Lib.hid (HA0.out wr hh)
          clear HH hh
          go_wp2_with fail
          refine HA.out.mono ?_
          clear HA
          rintro e w1 ⟨A1, q1, c1, z1, rfl, hF⟩
          have HN : Hid (St3 (E j) F G 1 w1) := hF
          clear hF hcc
          go_wp2
          go_roundg (gk - 1)
          case measure => omega
          case rel => exact ⟨1, by omega, by go_num, HN.out⟩
        · have hh : F wr := HH.out
          have hcc := HCF.out wr hh
          have HA := Lib.hid (HA1.out wr hh)
          clear HH hh
          go_wp2_with fail
          refine HA.out.mono ?_
          clear HA
          rintro e w1 ⟨A1, q1, c1, z1, rfl, hF⟩
          have HN : Hid (St3 (E j) F G 2 w1) := hF
          clear hF hcc
          go_wp2
          go_roundg (gk - 1)
          case measure => omega
          case rel => exact ⟨2, by omega, by go_num, HN.out⟩
        · have HG : Hid (G wr) := HH.out
          clear HH
          go_wp2
          go_ret
          exact ⟨rfl, HG.out⟩
    have i1 : (j : Int) < (k : Int) := by omega
    have i0 : (0 : Int) ≤ (j : Int) := by omega
    have hkw : IntKind.i64.wrap ((j : Int) + 1) = (j : Int) + 1 := IntWalk.i64_in _ (by omega)
    obtain ⟨hc0, hc1, hsk⟩ := HC.out j wr HH.out
    obtain ⟨b, off, z, rfl, hz, z1, z2, hcz⟩ := hsk.in_ (Below.refl _ _) hlt
    obtain ⟨zn, rfl⟩ := Int.eq_ofNat_of_zero_le z1
    obtain ⟨i, hi, hiL⟩ : ∃ i : Nat, zn % 2 = i ∧ i < 2 := ⟨_, rfl, Nat.mod_lt _ (by omega)⟩
    have a1' : IntKind.i64.wrap (zn : Int) = (zn : Int) := IntWalk.i64_in _ (by omega)
    have d1 : (zn : Int).tmod 2 = (i : Int) := by rw [← hi, Int.tmod_eq_emod_of_nonneg (by omega)]; rfl
    have d2 : (zn : Int) % 2 = (i : Int) := by omega
    have w2 : IntKind.i64.wrap (i : Int) = (i : Int) := IntWalk.i64_in _ (by omega)
    have hi2 : i = 0 ∨ i = 1 := by omega
    clear hsk hz hi hiL
    rcases hi2 with rfl | rfl
    · have HS := Lib.hid (HS0.out j wr hlt HH.out)
      clear HH
      go_wp2_with fail
      refine HS.out.mono ?_
      rintro e w1 ⟨⟨bb, rfl⟩, hM2⟩
      have HN := Lib.hid hM2
      clear HS hM2 hc0 hc1 hcz
      go_wp2
      go_roundg (gk - 1)
      case measure => omega
      case rel => exact ⟨j + 1, by omega, by go_num, HN.out⟩
    · have HS := Lib.hid (HS1.out j wr hlt HH.out)
      clear HH
      go_wp2_with fail
      refine HS.out.mono ?_
      rintro e w1 ⟨⟨bb, rfl⟩, hM2⟩
      have HN := Lib.hid hM2
      clear HS hM2 hc0 hc1 hcz
      go_wp2
      go_roundg (gk - 1)
      case measure => omega
      case rel => exact ⟨j + 1, by omega, by go_num, HN.out⟩
end Go.Proofs.Ytoeilogakfggfaa
