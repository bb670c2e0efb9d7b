/-
  The law WorldEnds.
-/
import Derived.Test.YtmnbdhngadjmiaaAk8
namespace Go.Proofs.Ytmnbdhngadjmiaa
open Go.ChangeShapes Go.WideShapes Go.ChangeAt Go.RowKit
set_option linter.unusedVariables false
set_option linter.unusedSimpArgs false
set_option maxRecDepth 20000

theorem all_true {now : Int} {S : List Tq} (r j : Nat) (h : ∀ k, j ≤ k → k < j + r → saidOf S k = now ∨ saidOf S k = -1) : allB now S r j = true ∧ allN now S r j = r := by
  induction r generalizing j with
  | zero => exact ⟨rfl, rfl⟩
  | succ r ih =>
    have h0 := h j (Nat.le_refl _) (by omega)
    have hn : ¬ (saidOf S j ≠ now ∧ saidOf S j ≠ -1) := fun e => h0.elim e.1 e.2
    obtain ⟨i1, i2⟩ := ih (j + 1) fun k h1 h2 => h k (by omega) (by omega)
    simp only [allB, allN]
    rw [if_neg hn, if_neg hn, i1, i2]
    exact ⟨rfl, rfl⟩
/-- A world in which all rest, behind k operations. -/
def sE (m L k : Nat) : Sig := { newSig m L with now := (k : Int) }
theorem said_repl (L j : Nat) : saidOf (List.replicate L ((-1, []) : Tq)) j = -1 := by
  unfold saidOf
  split
  · rename_i x hx
    obtain ⟨_, rfl⟩ := List.mem_replicate.1 (List.mem_of_getElem? hx)
    rfl
  · rfl
theorem bg_yes (L i : Nat) (s : Sig) (h : ∀ j, j < L → saidOf (setSaid s.S i s.now) j = s.now ∨ saidOf (setSaid s.S i s.now) j = -1) : bgS L i s = ⟨s.ar, s.now + 1, setSaid s.S i s.now⟩ ∧ bgN L i s = L + 4 := by
  have hall := all_true (now := s.now) (S := setSaid s.S i s.now) L 0 (fun k _ h2 => h k (by omega))
  refine ⟨?_, ?_⟩
  · unfold bgS
    exact if_pos hall.1
  · show 3 + allN s.now (setSaid s.S i s.now) L 0 + (if allB s.now (setSaid s.S i s.now) L 0 = true then 1 else 0) = L + 4
    rw [if_pos hall.1, hall.2]
    omega
theorem ev_be (m L k t : Nat) (ht : t < L) : ev (tBE 1000 L t) (sE m L k) = ((), sE m L (k + 1), L + 6) := by
  have hl : t < (sE m L k).S.length := by simpa [sE, newSig] using ht
  have he := ev_begin0 999 L t (sE m L k) (new_empty m L t)
  obtain ⟨hb, hn⟩ := bg_yes L t (sE m L k) (by
    intro j _
    rw [saidOf_set t _ _ j hl]
    split
    · exact .inl rfl
    · exact .inr (said_repl L j))
  unfold tBE
  rw [ev_bind, he, hb, hn]
  simp only [tEnd, ev]
  refine Prod.ext rfl (Prod.ext ?_ rfl)
  show (gSay t (-1) _).2 = sE m L (k + 1)
  simp only [gSay, sE, newSig]
  have e : setSaid (setSaid (List.replicate L ((-1, []) : Tq)) t (k : Int)) t (-1) = List.replicate L (-1, []) := by
    apply List.ext_getElem?
    intro j
    rw [said_at, said_at]
    by_cases hj : t = j
    · subst hj
      rw [if_pos rfl, if_pos rfl]
      simp [List.getElem?_replicate]
    · rw [if_neg hj, if_neg hj]
  rw [e]
  simp
theorem inv_sE (m L k B : Nat) (hm : m ≤ 65536) (hL : L ≤ 64) (hB : B ≤ 900) (hk : k ≤ 900) : Inv L B (sE m L k) := by
  have h := inv_new m L B hm hL hB
  exact ⟨h.len, h.l64, h.pl, h.cnt, h.flt, h.frl, h.fr, by simp only [sE]; omega, h.said, h.que⟩
set_option maxHeartbeats 1000000 in
theorem worldEnds_walk (x y z : Nat) (hx : x < 256) (hy : y < 256) (hz : z < 256) (w : World) :
    Calls Try.prog 6 #[.int .u8 (x : Int), .int .u8 (y : Int), .int .u8 (z : Int)] w fun e w' => e = .returned (.bool true) ∧ Below w.heap.size w w' := by
  obtain ⟨L, hL, hL1, hL2⟩ : ∃ L : Nat, 1 + x % 20 = L ∧ 1 ≤ L ∧ L ≤ 20 := ⟨_, rfl, by omega, by omega⟩
  obtain ⟨t, ht, htL⟩ : ∃ t : Nat, y % L = t ∧ t < L := ⟨_, rfl, Nat.mod_lt _ (by omega)⟩
  obtain ⟨T, hT, hT1, hT2⟩ : ∃ T : Nat, 1 + z % 8 = T ∧ 1 ≤ T ∧ T ≤ 8 := ⟨_, rfl, by omega, by omega⟩
  have a1 : IntKind.i64.wrap (x : Int) = (x : Int) := IntWalk.i64_in _ (by omega)
  have a2 : IntKind.i64.wrap (y : Int) = (y : Int) := IntWalk.i64_in _ (by omega)
  have a3 : IntKind.i64.wrap (z : Int) = (z : Int) := IntWalk.i64_in _ (by omega)
  have d1 : (x : Int).tmod 20 = ((x % 20 : Nat) : Int) := by rw [Int.tmod_eq_emod_of_nonneg (by omega)]; rfl
  have d2 : (y : Int).tmod (L : Int) = (t : Int) := by rw [← ht, Int.tmod_eq_emod_of_nonneg (by omega)]; rfl
  have d3 : (z : Int).tmod 8 = ((z % 8 : Nat) : Int) := by rw [Int.tmod_eq_emod_of_nonneg (by omega)]; rfl
  have e1 : IntKind.i64.wrap (1 + ((x % 20 : Nat) : Int)) = (L : Int) := by rw [← hL]; rw [IntWalk.i64_in _ (by omega)]; omega
  have e3 : IntKind.i64.wrap (1 + ((z % 8 : Nat) : Int)) = (T : Int) := by rw [← hT]; rw [IntWalk.i64_in _ (by omega)]; omega
  have e4 : IntKind.i64.wrap ((L : Int) + 6) = (L : Int) + 6 := IntWalk.i64_in _ (by omega)
  have L0 : ¬ (L : Int) = 0 := by omega
  have w1 : IntKind.i64.wrap ((x % 20 : Nat) : Int) = ((x % 20 : Nat) : Int) := IntWalk.i64_in _ (by omega)
  have w2 : IntKind.i64.wrap (t : Int) = (t : Int) := IntWalk.i64_in _ (by omega)
  have w3 : IntKind.i64.wrap ((z % 8 : Nat) : Int) = ((z % 8 : Nat) : Int) := IntWalk.i64_in _ (by omega)
  generalize ((x % 20 : Nat) : Int) = x20 at *
  generalize ((z % 8 : Nat) : Int) = z8 at *
  clear hL ht hT
  go_enter Try.func6, Try.ntmps6
  go_wp2_with fail
  refine (awake_walk w).mono ?_
  rintro e v1 ⟨rfl, b1⟩
  go_wp2_with fail
  refine (some_walk (L := L) (m := 5) b1 (by omega) (by decide)).mono ?_
  rintro e v2 ⟨d, rfl, hO⟩
  have HO : Hid (Ow w d (sE 5 L 0) v2) := hO
  clear hO b1
  go_wp2_with fail
  go_loopg [30] T (fun gk i wr => ∃ k : Nat, k + gk = T ∧ i = .int .i64 (k : Int) ∧ Hid (Ow w d (sE 5 L k) wr))
  case atStart => exact ⟨0, by omega, rfl, HO.out⟩
  case round =>
    clear HO
    obtain ⟨k, hk, rfl, HH⟩ := hrel
    by_cases hlt : k < T
    case neg =>
      have i1 : ¬ ((k : Int) < (T : Int)) := by omega
      go_wp2
      go_ret
      exact ⟨rfl, HH.out.below⟩
    have i1 : (k : Int) < (T : Int) := by omega
    have hkw : IntKind.i64.wrap ((k : Int) + 1) = (k : Int) + 1 := IntWalk.i64_in _ (by omega)
    have HS := Lib.hid (start_walk (me := t) (g := 34) (capw := #[]) HH.out.idle)
    go_wp2_with fail
    refine HS.out.mono ?_
    clear HS
    intro e u1 hS
    have hev := ev_be 5 L k t htL
    obtain ⟨a, rfl, hA⟩ := started_alone (B := 0) hS (fun a W => rfl) (end1_job d _ wr (L := L) htL) HH.out.idle.lt (tame_tBE 1000 L t) (by rw [hev]; exact inv_sE 5 L k _ (by omega) (by omega) (by simp only; omega) (by omega)) (by rw [hev]; simp only; omega) (by simp [nilOut])
    rw [hev] at hA
    have HA := Lib.hid hA
    have HB : Hid (Below w.heap.size w wr) := HH.out.below
    clear hA hS HH hev
    go_wp2_with fail
    refine HA.out.mono ?_
    rintro e u2 ⟨hP, -⟩
    obtain ⟨A, n, c, rfl, -, hO, -, -⟩ := Ow.alone HB.out hP
    have hmx : ((max (L + 6) 1 : Nat) : Int) = (L : Int) + 6 := by omega
    simp only
    rw [hmx]
    clear HA HB hP hmx
    have H := Lib.hid hO
    obtain ⟨g0, g1, g2, g3, g4, g5⟩ := hO.cells
    obtain ⟨FW, h1, h2⟩ := hO.idle
    have S1 := nxW_said (i := t) h1 (by simpa [sE, newSig] using htL)
    have S2 := nxW_now h1
    have q1 : (gSaid t (sE 5 L (k + 1))).1 = -1 := said_repl L t
    have q2 : (sE 5 L (k + 1)).now = (k : Int) + 1 := by simp [sE]
    rw [q1] at S1
    rw [q2] at S2
    have S1 := Lib.hid S1
    have S2 := Lib.hid S2
    clear h1 h2 hO g0 g1 g3 g4 g5 q1 q2
    go_wp2_with fail
    refine S1.out.mono ?_
    rintro e u3 ⟨rfl, rfl⟩
    go_wp2_with fail
    refine S2.out.mono ?_
    rintro e u3 ⟨rfl, rfl⟩
    clear S1 S2
    go_wp2
    go_roundg (gk - 1)
    case measure => omega
    case rel => exact ⟨k + 1, by omega, by go_num, H.out⟩
end Go.Proofs.Ytmnbdhngadjmiaa
