/-
  The law WorldBegins.
-/
import Derived.Test.YtmnbdhngadjmiaaSk8
namespace Go.Proofs.Ytmnbdhngadjmiaa
open Go.ChangeShapes Go.WideShapes Go.ChangeAt Go.RowKit
set_option linter.unusedVariables false
set_option linter.unusedSimpArgs false
set_option maxRecDepth 20000

/-- The world behind k announcements. -/
def sA (m nn : Nat) (l : List Int) (k : Nat) : Sig := ⟨(newSig m l.length).ar, (nn : Int), annS l k⟩
theorem inv_ep {L B : Nat} {s : Sig} (h : Inv L B s) {S' : List Tq} {n : Int} (hl : S'.length = L) (hn : 0 ≤ n ∧ n + B ≤ 100000) (hs : ∀ x ∈ S', in64 x.1) (hq : ∀ x ∈ S', x.2.length + B ≤ 1000 ∧ ∀ p ∈ x.2, in64 p.1 ∧ in64 p.2) : Inv L B ⟨s.ar, n, S'⟩ := ⟨hl, h.l64, h.pl, h.cnt, h.flt, h.frl, h.fr, hn, hs, hq⟩
theorem inv_sA (m nn B : Nat) (l : List Int) (hm : m ≤ 65536) (hl : l.length ≤ 64) (hr : ∀ z ∈ l, -128 ≤ z ∧ z ≤ 127) (hB : B ≤ 900) (hn : nn ≤ 900) : Inv l.length B (sA m nn l l.length) := by
  refine inv_ep (inv_new m l.length B hm hl hB) (by rw [annS_len _ _ (Nat.le_refl _)]) (by omega) ?_ ?_
  · intro x hx
    rw [annS_end] at hx
    obtain ⟨z, hz, rfl⟩ := List.mem_map.1 hx
    have := hr z hz
    unfold in64; simp only; omega
  · intro x hx
    rw [annS_end] at hx
    obtain ⟨z, hz, rfl⟩ := List.mem_map.1 hx
    exact ⟨by simp only [List.length_nil]; omega, fun p hp => by cases hp⟩
theorem sA_empty (m nn : Nat) (l : List Int) (i : Nat) : ∀ x, (sA m nn l l.length).S[i]? = some x → x.2 = [] := by
  intro x hx
  have hx := List.mem_of_getElem? hx
  simp only [sA] at hx
  rw [annS_end] at hx
  obtain ⟨z, hz, rfl⟩ := List.mem_map.1 hx
  rfl
/-- What thread t sees as it begins. -/
def seen (l : List Int) (t : Nat) (nn : Int) : List Tq := setSaid (l.map fun z => ((z, []) : Tq)) t nn
theorem seen_at (l : List Int) (t j : Nat) (nn z : Int) (ht : t < l.length) (h : l[j]? = some z) : saidOf (seen l t nn) j = if t = j then nn else z := by
  unfold seen
  rw [saidOf_set t _ _ j (by simpa using ht)]
  split
  · rfl
  · exact said_ann l j z h
theorem seen_len (l : List Int) (t : Nat) (nn : Int) : (seen l t nn).length = l.length := by
  unfold seen setSaid
  split <;> simp
/-- The law's own reckoning, behind k of them. -/
def rkA (l : List Int) (t : Nat) (nn : Int) (k : Nat) : Bool := allB nn (seen l t nn) k 0
def rkN (l : List Int) (t : Nat) (nn : Int) (k : Nat) : Nat := 4 + allN nn (seen l t nn) k 0
theorem rk_next (l : List Int) (t k : Nat) (nn z : Int) (ht : t < l.length) (h : l[k]? = some z) :
    rkA l t nn (k + 1) = (rkA l t nn k && !(decide (k ≠ t) && decide (z ≠ -1) && decide (z ≠ nn))) ∧ rkN l t nn (k + 1) = rkN l t nn k + (if rkA l t nn k then 1 else 0) := by
  obtain ⟨h1, h2⟩ := allB_snoc nn (seen l t nn) k 0
  rw [Nat.zero_add, seen_at l t k nn z ht h] at h1
  refine ⟨?_, ?_⟩
  · unfold rkA
    rw [h1]
    congr 2
    by_cases e : t = k
    · subst e; simp
    · have e' : ¬ k = t := fun h => e h.symm
      simp only [if_neg e, ne_eq, e', not_false_eq_true, decide_true, Bool.true_and]
      by_cases e1 : z = nn <;> by_cases e2 : z = -1 <;> simp [e1, e2]
  · unfold rkN rkA
    rw [h2]
    omega
theorem ev_begins (m nn t : Nat) (l : List Int) (ht : t < l.length) :
    ev (tBegin 1000 l.length t) (sA m nn l l.length) = ((), bgS l.length t (sA m nn l l.length), rkN l t nn l.length + (if rkA l t nn l.length then 1 else 0)) ∧
    (bgS l.length t (sA m nn l l.length)).now = (nn : Int) + (if rkA l t nn l.length then 1 else 0) ∧ (bgS l.length t (sA m nn l l.length)).S = seen l t nn := by
  have he := ev_begin0 999 l.length t (sA m nn l l.length) (sA_empty m nn l t)
  have hS : (gSay t (sA m nn l l.length).now (sA m nn l l.length)).2.S = seen l t nn := by
    show setSaid (annS l l.length) t (nn : Int) = _
    rw [annS_end]; rfl
  have hn : (sA m nn l l.length).now = (nn : Int) := rfl
  refine ⟨?_, ?_, ?_⟩
  · rw [he]
    refine Prod.ext rfl (Prod.ext rfl ?_)
    show bgN l.length t (sA m nn l l.length) + 1 = _
    unfold bgN rkN rkA
    rw [hS, hn]
    simp only
    omega
  · rw [bgS_now, hS, hn]; rfl
  · rw [bgS_S]
    show setSaid (annS l l.length) t (nn : Int) = _
    rw [annS_end]; rfl
set_option maxHeartbeats 4000000 in
theorem worldBegins_walk (A : Option Addr) (n c : Nat) (l : List Int) (y x : Nat) (hy : y < 256) (hx : x < 256) (w : World) (hs : Sk .i8 (-128) 127 w A n l) :
    Calls Try.prog 4 #[.slice A n c, .int .u8 (y : Int), .int .u8 (x : Int)] w fun e w' => e = .returned (.bool true) ∧ Below w.heap.size w w' := by
  have hmax : n ≤ maxLen := hs.max
  have hmax2 : (n : Int) ≤ 9223372036854775807 := by unfold maxLen at hmax; omega
  have hnl := Lib.hid hs.len
  have HSK := Lib.hid hs
  clear hs hmax
  go_enter Try.func4, Try.ntmps4
  go_wp2_with fail
  refine (awake_walk w).mono ?_
  rintro e v1 ⟨rfl, b1⟩
  by_cases h1 : n < 1
  · have i1 : (n : Int) < 1 := by omega
    go_wp2
    go_ret
    exact ⟨rfl, b1⟩
  by_cases h2 : 10 < n
  · have i1 : ¬ (n : Int) < 1 := by omega
    have i2 : (10 : Int) < (n : Int) := by omega
    go_wp2
    go_ret
    exact ⟨rfl, b1⟩
  have i1 : ¬ (n : Int) < 1 := by omega
  have i2 : ¬ (10 : Int) < (n : Int) := by omega
  obtain ⟨t, ht, htL⟩ : ∃ t : Nat, x % n = t ∧ t < n := ⟨_, rfl, Nat.mod_lt _ (by omega)⟩
  obtain ⟨nn, hnn, hnn6⟩ : ∃ nn : Nat, y % 6 = nn ∧ nn < 6 := ⟨_, rfl, Nat.mod_lt _ (by omega)⟩
  have a1 : IntKind.i64.wrap (x : Int) = (x : Int) := IntWalk.i64_in _ (by omega)
  have d1 : (x : Int).tmod (n : Int) = (t : Int) := by rw [← ht, Int.tmod_eq_emod_of_nonneg (by omega)]; rfl
  have d2 : (y : Int).tmod 6 = (nn : Int) := by rw [← hnn, Int.tmod_eq_emod_of_nonneg (by omega)]; rfl
  have n0 : ¬ (n : Int) = 0 := by omega
  have w1 : IntKind.i64.wrap (t : Int) = (t : Int) := IntWalk.i64_in _ (by omega)
  have w2 : IntKind.i64.wrap (nn : Int) = (nn : Int) := IntWalk.i64_in _ (by omega)
  have w3 : IntKind.u8.wrap (nn : Int) = (nn : Int) := by simp only [IntKind.wrap_u8]; omega
  clear ht hnn
  go_wp2_with fail
  refine (some_walk (L := n) (m := 9) b1 (by omega) (by decide)).mono ?_
  rintro e v2 ⟨d, rfl, hO⟩
  have HO : Hid (Ow w d (sE 9 n 0) v2) := hO
  clear hO b1
  go_wp2_with fail
  clear a1 d1 d2 w1 w2 w3 i1 i2
  go_loopg [43] nn (fun gk i wr => ∃ k : Nat, k + gk = nn ∧ i = .int .i64 (k : Int) ∧ Hid (Ow w d (sE 9 n k) wr))
  case atStart => exact ⟨0, by omega, rfl, HO.out⟩
  case round =>
    clear HO
    obtain ⟨k, hk, rfl, HH⟩ := hrel
    by_cases hlt : k < nn
    case pos =>
      have i1 : (k : Int) < (nn : Int) := by omega
      have hkw : IntKind.i64.wrap ((k : Int) + 1) = (k : Int) + 1 := IntWalk.i64_in _ (by omega)
      obtain ⟨g0, g1, g2, g3, g4, g5⟩ := HH.out.cells
      obtain ⟨FW, k1, k2⟩ := HH.out.idle
      have S1 := Lib.hid (nxW_swap k1 (inv_sE 9 n k 0 (by omega) (by omega) (by omega) (by omega)).fit (k : Int))
      have HB := Lib.hid HH.out.below
      have HE : Hid (∀ w', NxW d FW wr (gSwap (k : Int) (sE 9 n k)).2 w' → Ow w d (sE 9 n (k + 1)) w') := by
        intro w' hn
        have e : (gSwap (k : Int) (sE 9 n k)).2 = sE 9 n (k + 1) := by simp [gSwap, sE]
        rw [e] at hn
        obtain ⟨q1, q2⟩ := Idle.nx k1 k2 hn
        exact ⟨q1, HB.out.trans (kp_below q2)⟩
      clear HH k1 k2 g0 g1 g3 g4 g5 HB
      go_wp2_with fail
      refine S1.out.mono ?_
      rintro e u1 ⟨b, rfl, -, hn⟩
      have H := Lib.hid (HE.out u1 hn)
      clear S1 HE hn
      go_wp2
      go_roundg (gk - 1)
      case measure => omega
      case rel => exact ⟨k + 1, by omega, by go_num, H.out⟩
    have i1 : ¬ ((k : Int) < (nn : Int)) := by omega
    obtain rfl : k = nn := by omega
    have HO : Hid (Ow w d (sA 9 k l 0) wr) := by
      have e : sA 9 k l 0 = sE 9 n k := by simp only [sA, sE, annS_zero, ← hnl.out]; rfl
      show Ow w d (sA 9 k l 0) wr
      rw [e]; exact HH.out
    clear HH hk
    have htl : t < l.length := by rw [← hnl.out]; exact htL
    have HTL := Lib.hid htl
    clear htl
    go_wp2_with fail
    go_loopg [55, 11, 12] n (fun gk i tv av wr => ∃ j : Nat, j + gk = n ∧ i = .int .i64 (j : Int) ∧ tv = .int .i64 ((rkN l t (k : Int) j : Nat) : Int) ∧ av = .bool (rkA l t (k : Int) j) ∧ Hid (Ow w d (sA 9 k l j) wr))
    case atStart => exact ⟨0, by omega, rfl, rfl, rfl, HO.out⟩
    case round =>
      clear HO
      obtain ⟨j, hj, rfl, rfl, rfl, HH⟩ := hrel
      by_cases hlt : j < n
      case pos =>
        have i2 : (j : Int) < (n : Int) := by omega
        have i3 : (0 : Int) ≤ (j : Int) := by omega
        have hkw : IntKind.i64.wrap ((j : Int) + 1) = (j : Int) + 1 := IntWalk.i64_in _ (by omega)
        obtain ⟨b, off, z, rfl, hz, z1, z2, hc⟩ := HSK.out.in_ HH.out.below hlt
        have wz : IntKind.i64.wrap z = z := IntWalk.i64_in _ (by omega)
        obtain ⟨g0, g1, g2, g3, g4, g5⟩ := HH.out.cells
        obtain ⟨FW, k1, k2⟩ := HH.out.idle
        have hjl : j < (sA 9 k l j).S.length := by simp only [sA]; rw [annS_len _ _ (by rw [← hnl.out]; omega), ← hnl.out]; exact hlt
        have S1 := Lib.hid (nxW_say k1 hjl z)
        have HB := Lib.hid HH.out.below
        have HE : Hid (∀ w', NxW d FW wr (gSay j z (sA 9 k l j)).2 w' → Ow w d (sA 9 k l (j + 1)) w') := by
          intro w' hn
          have e : (gSay j z (sA 9 k l j)).2 = sA 9 k l (j + 1) := by simp only [gSay, sA]; rw [annS_set l j z hz]
          rw [e] at hn
          obtain ⟨q1, q2⟩ := Idle.nx k1 k2 hn
          exact ⟨q1, HB.out.trans (kp_below q2)⟩
        obtain ⟨r1, r2⟩ := rk_next l t j (k : Int) z HTL.out hz
        have hle : rkN l t (k : Int) j ≤ 4 + j := by unfold rkN; have := allN_le (k : Int) (seen l t (k : Int)) j 0; omega
        have R1 := Lib.hid r1
        have R2 := Lib.hid r2
        clear HH k1 k2 g0 g1 g3 g4 g5 HB hjl hz r1 r2
        obtain ⟨rn, hrn⟩ : ∃ rn, rkN l t (k : Int) j = rn := ⟨_, rfl⟩
        obtain ⟨ra, hra⟩ : ∃ ra, rkA l t (k : Int) j = ra := ⟨_, rfl⟩
        rw [hrn, hra] at R2
        rw [hra] at R1
        rw [hrn] at hle ⊢
        rw [hra]
        have rw1 : IntKind.i64.wrap ((rn : Int) + 1) = (rn : Int) + 1 := IntWalk.i64_in _ (by omega)
        clear hrn hra
        go_wp2_with fail
        refine S1.out.mono ?_
        rintro e u1 ⟨rfl, hn⟩
        have H := Lib.hid (HE.out u1 hn)
        clear S1 HE hn hc
        have HF : Hid (∀ (tv av : Value), tv = .int .i64 ((rn : Int) + (if ra then 1 else 0)) → av = .bool (ra && !(decide (j ≠ t) && decide (z ≠ -1) && decide (z ≠ (k : Int)))) → ∃ j' : Nat, j' + (gk - 1) = n ∧ Value.int .i64 ((j : Int) + 1) = .int .i64 (j' : Int) ∧ tv = .int .i64 ((rkN l t (k : Int) j' : Nat) : Int) ∧ av = .bool (rkA l t (k : Int) j') ∧ Hid (Ow w d (sA 9 k l j') u1)) := by
          intro tv av e1 e2
          refine ⟨j + 1, by omega, by go_num, ?_, ?_, H.out⟩
          · rw [e1, R2.out]; cases ra <;> simp
          · rw [e2, R1.out]
        clear R1 R2 H
        cases ra with
        | false =>
          by_cases e1 : j = t
          · subst e1
            go_wp2
            go_roundg (gk - 1)
            case measure => omega
            case rel => exact HF.out _ _ (by simp) (by simp [])
          · have f1 : ¬ (j : Int) = (t : Int) := by omega
            by_cases e2 : z = -1
            · subst e2
              go_wp2
              go_roundg (gk - 1)
              case measure => omega
              case rel => exact HF.out _ _ (by simp) (by simp [])
            · by_cases e3 : z = (k : Int)
              · subst e3
                go_wp2
                go_roundg (gk - 1)
                case measure => omega
                case rel => exact HF.out _ _ (by simp) (by simp [])
              · have f3 : (z != (k : Int)) = true := by simpa using e3
                have f2 : (z != -1) = true := by simpa using e2
                go_wp2
                go_roundg (gk - 1)
                case measure => omega
                case rel => exact HF.out _ _ (by simp) (by simp [])
        | true =>
          by_cases e1 : j = t
          · subst e1
            go_wp2
            go_roundg (gk - 1)
            case measure => omega
            case rel => exact HF.out _ _ (by simp) (by simp [])
          · have f1 : ¬ (j : Int) = (t : Int) := by omega
            by_cases e2 : z = -1
            · subst e2
              go_wp2
              go_roundg (gk - 1)
              case measure => omega
              case rel => exact HF.out _ _ (by simp) (by simp [e1])
            · by_cases e3 : z = (k : Int)
              · subst e3
                go_wp2
                go_roundg (gk - 1)
                case measure => omega
                case rel => exact HF.out _ _ (by simp) (by simp [e1])
              · have f3 : (z != (k : Int)) = true := by simpa using e3
                have f2 : (z != -1) = true := by simpa using e2
                go_wp2
                go_roundg (gk - 1)
                case measure => omega
                case rel => exact HF.out _ _ (by simp) (by simp [e1, e2, e3])
      have i2 : ¬ ((j : Int) < (n : Int)) := by omega
      obtain rfl : j = n := by omega
      have hle : rkN l t (k : Int) j ≤ 4 + j := by unfold rkN; have := allN_le (k : Int) (seen l t (k : Int)) j 0; omega
      have hge : 4 ≤ rkN l t (k : Int) j := by unfold rkN; omega
      have hnl2 : l.length = j := hnl.out.symm
      have hEV := ev_begins 9 k t l HTL.out
      have hIN := inv_sA 9 k 30 l (by omega) (by omega) HSK.out.rng (by omega) (by omega)
      rw [hnl2] at hEV hIN
      obtain ⟨rn, hrn⟩ : ∃ rn, rkN l t (k : Int) j = rn := ⟨_, rfl⟩
      obtain ⟨ra, hra⟩ : ∃ ra, rkA l t (k : Int) j = ra := ⟨_, rfl⟩
      rw [hrn, hra] at hEV
      rw [hrn] at hle hge ⊢
      rw [hra]
      clear hrn hra
      have HEV := Lib.hid hEV
      have HIN := Lib.hid hIN
      clear hEV hIN hj hlt hnl2
      have rw1 : IntKind.i64.wrap ((rn : Int) + 1) = (rn : Int) + 1 := IntWalk.i64_in _ (by omega)
      have rw2 : IntKind.i64.wrap ((k : Int) + 1) = (k : Int) + 1 := IntWalk.i64_in _ (by omega)
      go_upto_if 86 with fail
      go_cut [11, 15] (fun tv wv wx => ∃ (r1 : Nat) (k1 : Nat), tv = .int .i64 (r1 : Int) ∧ wv = .int .i64 (k1 : Int) ∧ r1 = rn + (if ra then 1 else 0) ∧ k1 = k + (if ra then 1 else 0) ∧ wr = wx)
      case first =>
        cases ra with
        | true =>
          go_wp2
          go_meet
          case rel => exact ⟨rn + 1, k + 1, by go_num, by go_num, rfl, rfl, rfl⟩
        | false =>
          go_wp2
          go_meet
          case rel => exact ⟨rn, k, rfl, rfl, rfl, rfl, rfl⟩
      case rest =>
        obtain ⟨r1, k1, rfl, rfl, hr1, hk1, rfl⟩ := hcut
        have HR1 := Lib.hid hr1
        have HK1 := Lib.hid hk1
        clear hr1 hk1
        have HS := Lib.hid (start_walk (me := t) (g := 26) (capw := #[]) HH.out.idle)
        go_wp2_with fail
        refine HS.out.mono ?_
        clear HS
        intro e u1 hS
        obtain ⟨hev, hnow, hSS⟩ := HEV.out
        rw [← HR1.out] at hev
        have hr1b : r1 ≤ 15 := by rw [HR1.out]; split <;> omega
        obtain ⟨a, rfl, hA⟩ := started_alone (B := 0) hS (fun a W => rfl) (bgn1_job d _ wr (L := j) htL) HH.out.idle.lt (tame_tBegin 1000 j t) (by rw [hev]; exact HIN.out.mono (by simp only; omega)) (by rw [hev]; simp only; omega) (by simp [nilOut])
        rw [hev] at hA
        have HA := Lib.hid hA
        have HB : Hid (Below w.heap.size w wr) := HH.out.below
        clear hA hS HH hev HEV HIN
        go_wp2_with fail
        refine HA.out.mono ?_
        rintro e u2 ⟨hP, -⟩
        obtain ⟨A', n', c', rfl, -, hO, -, -⟩ := Ow.alone HB.out hP
        have hr4 : 1 ≤ r1 := by rw [HR1.out]; omega
        have hmx : ((max r1 1 : Nat) : Int) = (r1 : Int) := by omega
        simp only
        rw [hmx]
        clear HA HB hP hmx
        have H := Lib.hid hO
        obtain ⟨g0, g1, g2, g3, g4, g5⟩ := hO.cells
        obtain ⟨FW, q1, q2⟩ := hO.idle
        have S2 := nxW_now q1
        have hnow2 : (bgS j t (sA 9 k l j)).now = (k1 : Int) := by rw [hnow, HK1.out]; split <;> simp
        simp only at S2
        rw [hnow2] at S2
        have S2 := Lib.hid S2
        have HSS := Lib.hid hSS
        clear q1 q2 hO g0 g1 g3 g4 g5 hnow hnow2 hSS
        go_wp2_with fail
        refine S2.out.mono ?_
        rintro e u3 ⟨rfl, rfl⟩
        clear S2 g2
        go_wp2_with fail
        go_loopg [117] j (fun gk i wr => ∃ q : Nat, q + gk = j ∧ i = .int .i64 (q : Int) ∧ u2 = wr)
        case atStart => exact ⟨0, by omega, rfl, rfl⟩
        case round =>
          obtain ⟨q, hq, rfl, rfl⟩ := hrel
          by_cases hlt : q < j
          case neg =>
            have i3 : ¬ ((q : Int) < (j : Int)) := by omega
            go_wp2
            go_ret
            exact ⟨rfl, H.out.below⟩
          have i3 : (q : Int) < (j : Int) := by omega
          have i4 : (0 : Int) ≤ (q : Int) := by omega
          have hkw : IntKind.i64.wrap ((q : Int) + 1) = (q : Int) + 1 := IntWalk.i64_in _ (by omega)
          obtain ⟨b, off, z, rfl, hz, z1, z2, hc⟩ := HSK.out.in_ H.out.below hlt
          have wz : IntKind.i64.wrap z = z := IntWalk.i64_in _ (by omega)
          obtain ⟨g0, g1, g2, g3, g4, g5⟩ := H.out.cells
          obtain ⟨FW, p1, p2⟩ := H.out.idle
          have S1 := nxW_said (i := q) p1 (by rw [HSS.out, seen_len, ← hnl.out]; exact hlt)
          have hsd : (gSaid q (bgS j t (sA 9 k l j))).1 = if t = q then (k : Int) else z := by
            show saidOf (bgS j t (sA 9 k l j)).S q = _
            rw [HSS.out]
            exact seen_at l t q (k : Int) z HTL.out hz
          (try simp only at S1)
          rw [hsd] at S1
          clear p1 p2 g0 g1 g3 g4 g5 hsd hz
          by_cases e1 : q = t
          · subst e1
            rw [if_pos rfl] at S1
            have S1 := Lib.hid S1
            go_wp2_with fail
            refine S1.out.mono ?_
            rintro e u3 ⟨rfl, rfl⟩
            go_wp2
            go_roundg (gk - 1)
            case measure => omega
            case rel => exact ⟨q + 1, by omega, by go_num, rfl⟩
          · rw [if_neg (fun e => e1 e.symm)] at S1
            have f1 : ¬ (q : Int) = (t : Int) := by omega
            have S1 := Lib.hid S1
            go_wp2_with fail
            refine S1.out.mono ?_
            rintro e u3 ⟨rfl, rfl⟩
            go_wp2
            go_roundg (gk - 1)
            case measure => omega
            case rel => exact ⟨q + 1, by omega, by go_num, rfl⟩
end Go.Proofs.Ytmnbdhngadjmiaa
