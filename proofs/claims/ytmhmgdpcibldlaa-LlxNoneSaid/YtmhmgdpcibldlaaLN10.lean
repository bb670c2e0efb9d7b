/-
  Law LlxNone: without a record left nothing is stored, and that is told.
-/
import Derived.Test.YtmhmgdpcibldlaaCh10
import Derived.Lib.MinMax
namespace Go.Proofs.Ytmhmgdpcibldlaa
open Go.ChangeShapes Go.WideShapes Go.ChangeAt Go.RowKit
set_option linter.unusedVariables false
set_option linter.unusedSimpArgs false
set_option maxRecDepth 20000

def ndX : Nd := ⟨true, false, [], [], [400]⟩
abbrev rX : Int := mk 2 1
abbrev prsX : List (Int × Nd) := [(rX, ndX)]
def rcX (i : Nat) : Rc := ⟨[rX], [(i : Int)], 1, 0, 400 + (i : Int), 401 + (i : Int)⟩
/-- Behind j records. -/
def sX (j : Nat) : Sig := ⟨⟨9, [rootPa, entryPa, ⟨true, 1, ndX, [400 + (j : Int)], (j : Int), false⟩], [], 0⟩, 0, [(-1, [])], (List.range j).map fun i => ⟨rcX i, 2, true⟩⟩
theorem make_X : gMake ndX (newSig 9 1) = (rX, sX 0) := by rfl
theorem ev_X {j k : Nat} (hj : j < k) (hk : k ≤ 4) : ev (tChange k prsX 1 0 (400 + (j : Int)) (401 + (j : Int))) (sX j) = ([1], sX (j + 1), 11) := by
  have h1 : j = 0 ∨ j = 1 ∨ j = 2 ∨ j = 3 := by omega
  have h2 : k = 1 ∨ k = 2 ∨ k = 3 ∨ k = 4 := by omega
  rcases h1 with rfl | rfl | rfl | rfl <;> rcases h2 with rfl | rfl | rfl | rfl <;> first | (exfalso; omega) | rfl
theorem ev_X0 {k i : Nat} (hk : k ≤ 4) : ev (tChange k prsX 1 0 (400 + (k : Int)) (401 + (i : Int))) (sX k) = ([2], sX k, 7) := by
  have h2 : k = 0 ∨ k = 1 ∨ k = 2 ∨ k = 3 ∨ k = 4 := by omega
  rcases h2 with rfl | rfl | rfl | rfl | rfl <;> rfl
theorem hit_X (j : Nat) : (sX j).ar.hit rX = some (2, ⟨true, 1, ndX, [400 + (j : Int)], (j : Int), false⟩) := by
  unfold As.hit
  rw [show (pl rX).toNat = 2 from by rw [pl_mk]; rfl]
  simp only [sX, List.getElem?_cons_succ, List.getElem?_cons_zero]
  rw [if_pos ⟨trivial, rfl⟩]
theorem stt_X {j k : Nat} (hj : j ≤ k) (hk : k ≤ 4) : Stt prsX k (sX j) := by
  refine ⟨fun x hx => ?_, fun x hx => ?_, by simp [sX]; exact hj, fun p hp z hz => ?_, by simp [sX], fun p hp => ?_⟩
  · obtain rfl : x = (rX, ndX) := by simpa using hx
    exact ⟨2, _, hit_X j, rfl⟩
  · obtain ⟨i, hi, rfl⟩ := List.mem_map.1 hx
    have hi := List.mem_range.1 hi
    exact ⟨⟨by show (0 : Int) ≤ 1; omega, rfl, by simp [rcX]⟩, by show in64 (401 + (i : Int)); exact in64_small (by omega)⟩
  · simp only [sX, List.mem_cons, List.not_mem_nil, or_false] at hp
    rcases hp with rfl | rfl | rfl
    · cases hz
    · simp only [entryPa, List.mem_cons, List.not_mem_nil, or_false] at hz
      subst hz
      have := mk_range 0 1
      unfold in64; omega
    · simp only [List.mem_cons, List.not_mem_nil, or_false] at hz
      subst hz
      exact in64_small (by omega)
  · simp only [sX, List.mem_cons, List.not_mem_nil, or_false] at hp
    rcases hp with rfl | rfl | rfl
    · simp only [rootPa]; omega
    · simp only [entryPa]; omega
    · show (1 : Nat) ≤ 1000000; omega
theorem inv_X {j B : Nat} (hj : j ≤ 4) (hB : B ≤ 900) : Inv 1 B (sX j) := by
  refine ⟨rfl, by omega, by simp only [sX, List.length_cons, List.length_nil]; omega, ?_, by simp only [sX]; omega, by simp only [sX, List.length_nil]; omega, fun i hi => (by cases hi), by simp only [sX]; omega, ?_, ?_, by simp [sX]; omega, ?_⟩
  · intro p hp
    simp only [sX, List.mem_cons, List.not_mem_nil, or_false] at hp
    rcases hp with rfl | rfl | rfl
    · simp only [rootPa]; omega
    · simp only [entryPa]; omega
    · show 1 + B ≤ 100000; omega
  · intro x hx
    simp only [sX, List.mem_cons, List.not_mem_nil, or_false] at hx
    subst hx; exact in01.2.2
  · intro x hx
    simp only [sX, List.mem_cons, List.not_mem_nil, or_false] at hx
    subst hx
    exact ⟨by simp only [List.length_nil]; omega, fun p hp => by cases hp⟩
  · intro p hp
    simp only [sX, List.mem_cons, List.not_mem_nil, or_false] at hp
    rcases hp with rfl | rfl | rfl
    · exact in01.1
    · exact in01.1
    · exact in64_small (by show -1000000 ≤ (j : Int) ∧ (j : Int) ≤ 1000000; omega)
set_option maxHeartbeats 8000000 in
theorem llxNone_walk (x y : Nat) (hx : x < 256) (hy : y < 256) (w : World) :
    Calls Try.prog 10 #[.int .u8 (x : Int), .int .u8 (y : Int)] w fun e w' => e = .returned (.bool true) ∧ Below w.heap.size w w' := by
  obtain ⟨k, hk, hk4⟩ : ∃ k : Nat, x % 5 = k ∧ k ≤ 4 := ⟨_, rfl, by omega⟩
  obtain ⟨T, hT, hT8⟩ : ∃ T : Nat, y % 8 = T ∧ T ≤ 7 := ⟨_, rfl, by omega⟩
  have a1 : IntKind.i64.wrap (x : Int) = (x : Int) := IntWalk.i64_in _ (by omega)
  have a2 : IntKind.i64.wrap (y : Int) = (y : Int) := IntWalk.i64_in _ (by omega)
  have d1 : (x : Int).tmod 5 = (k : Int) := by rw [Int.tmod_eq_emod_of_nonneg (by omega), ← hk]; rfl
  have d2 : (y : Int).tmod 8 = (T : Int) := by rw [Int.tmod_eq_emod_of_nonneg (by omega), ← hT]; rfl
  have e1 : (x : Int) % 5 = (k : Int) := by omega
  have e2 : (y : Int) % 8 = (T : Int) := by omega
  clear hk hT
  have HN : Hid (∀ w, Calls Try.prog 47 #[.int .i64 2, .int .i64 3, .int .i64 1, .int .i64 9, .int .i64 (k : Int)] w (NewW w 2 3 9 1 k)) := fun w => new_ok (a := 2) (b := 3) (t := 1) (n := 9) (r := (k : Int)) w (by omega) (by omega) (by omega) (by omega) (by omega)
  go_enter Try.func10, Try.ntmps10
  go_wp2_with fail
  refine (awake10_walk w).mono ?_
  rintro e v1 ⟨rfl, b1⟩
  go_wp2_with fail
  refine (HN.out v1).mono ?_
  intro e v2 hP
  obtain ⟨d, rfl, -, -, -, hm, hO⟩ := Ow.new (Below.refl v1.heap.size v1) hP
  have HB1 := Lib.hid b1
  have HDM : Hid (d.m = k) := hm
  have HM : Hid (MB v1 (fun _ => False) d 0 0 h0 o0 (newSig 9 1) v2) := ⟨ME.none_ (hO.idle.mono fun b e => e.elim id fun e => e.elim), hO.below⟩
  clear HN hP hO hm b1
  obtain ⟨g0, -, -, -, -, -⟩ := HM.out.cells
  have HAl : Hid (Calls Try.prog 48 #[ptr d.A, ndv true false (.slice none 0 0) (.slice none 0 0) (.slice (some ⟨v2.heap.size, 0, none⟩) 1 1)] (v2.alloc (.cells #[.int .i64 400] rfT)) fun e w' => ∃ b, e = .returned (.tuple #[.int .i64 rX, .bool b]) ∧ MB v1 (fun _ => False) d 0 0 h0 o0 (sX 0) w') := by
    obtain ⟨⟨FW, P, hMS0⟩, hbl0⟩ := HM.out
    have bY := below_new v2 (.cells #[.int .i64 400] rfT)
    have hI := inv_new 9 1 0 (by omega) (by omega) (by omega)
    have hno : ¬ FW v2.heap.size := fun f => by have := hMS0.ws.lt _ f; omega
    have hMS : MS d (fun b => b < v1.heap.size ∨ False) 0 0 h0 o0 (newSig 9 1) FW P (v2.alloc (.cells #[.int .i64 400] rfT)) := ⟨hMS0.ws.below bY, fun b e => ⟨Nat.lt_of_lt_of_le (hMS0.rs b e).1 bY.size, (hMS0.rs b e).2⟩, fun i hi => absurd hi (by omega), fun i j b hi => absurd hi (by omega), fun i hi => absurd hi (by omega)⟩
    have hRd : RdF FW (v2.alloc (.cells #[.int .i64 400] rfT)) (ndv true false (.slice none 0 0) (.slice none 0 0) (.slice (some ⟨v2.heap.size, 0, none⟩) 1 1)) ndX := by
      refine ⟨none, 0, none, 0, some ⟨v2.heap.size, 0, none⟩, 1, rfl, Lp.nil _, Sl.nil _, sl_one9 (c_new rfl rfl), ?_⟩
      rintro ad (e | e | e)
      · cases e
      · cases e
      · injection e with e; subst e; exact hno
    refine (nxW_make hMS.ws hI.fit.ok hI.fit.fr hRd (by unfold Nd.small ndX; simp)).mono ?_
    rintro e w' ⟨b, rfl, hn⟩
    rw [make_X] at hn ⊢
    obtain ⟨k1, k2⟩ := hMS.nx hn (.inl rfl)
    exact ⟨b, rfl, k1, (hbl0.trans (bY.mono hbl0.size)).trans (kp_below (k2.mono fun b e => .inl e))⟩
  clear HM
  go_wp2_with fail
  refine HAl.out.mono ?_
  rintro e v3 ⟨bb, rfl, h3⟩
  have HM3 : Hid (MB v1 (fun _ => False) d 0 0 h0 o0 (sX (min 0 k)) v3) := by
    show MB _ _ _ _ _ _ _ _ _
    rw [Nat.zero_min]; exact h3
  clear HAl h3 g0
  go_wp2_with fail
  go_loopg [40] T (fun gk iv wr => ∃ i : Nat, i + gk = T ∧ iv = .int .i64 (i : Int) ∧ Hid (MB v1 (fun _ => False) d 0 0 h0 o0 (sX (min i k)) wr))
  case atStart => exact ⟨0, by omega, rfl, HM3.out⟩
  case round =>
    clear HM3
    obtain ⟨i, hi, rfl, HH⟩ := hrel
    by_cases hlt : i < T
    case neg =>
      have i1 : ¬ ((i : Int) < (T : Int)) := by omega
      have HE : Hid (Below w.heap.size w wr) := HB1.out.trans (HH.out.bel.mono HB1.out.size)
      clear HH
      go_wp2
      go_ret
      exact ⟨rfl, HE.out⟩
    have i1 : (i : Int) < (T : Int) := by omega
    have hkw : IntKind.i64.wrap ((i : Int) + 1) = (i : Int) + 1 := IntWalk.i64_in _ (by omega)
    by_cases hlt2 : i < k
    · have i2 : ¬ ((k : Int) ≤ (i : Int)) := by omega
      have hj : min i k = i := by omega
      have hj' : min (i + 1) k = i + 1 := by omega
      rw [hj] at HH
      have m1 : min (i : Int) (k : Int) = (i : Int) := by omega
      have m2 : min ((i : Int) + 1) (k : Int) = ((i + 1 : Nat) : Int) := by omega
      have hev : ev (tChange k prsX 1 0 (400 + (i : Int)) (401 + (i : Int))) (sX i) = ([1], sX (i + 1), 11) := ev_X hlt2 hk4
      have bZ := below_new wr (.cells #[.int .i64 rX] rfT)
      have hMZ : MB v1 (fun q => q = wr.heap.size) d 0 0 h0 o0 (sX i) (wr.alloc (.cells #[.int .i64 rX] rfT)) := HH.out.more bZ (fun q e => .inr ⟨by omega, by rw [e]; simp⟩) (.inl rfl)
      have HCh := Lib.hid (hMZ.change (me := 0) (M := k) (nds := prsX) (prs := prsX) (A := some ⟨wr.heap.size, 0, none⟩) (m := 1) (c0 := 1) (kp := 1) (wy := 0) (od := 400 + (i : Int)) (nw := 401 + (i : Int)) (by omega) HDM.out (fun x hx => ⟨hx, by rw [show x = (rX, ndX) from by simpa using hx]; unfold Nd.small ndX; simp⟩) (by simp) (sl_one9 (c_new rfl rfl)) (fun ad e => by injection e with e; rw [← e]) (in64_small (by omega)))
      clear hMZ bZ HH hj
      go_wp2_with fail
      refine HCh.out.mono ?_
      rintro e u1 ⟨a, b, rfl, hM1, hb1⟩
      have HA := Lib.hid (hM1.alone (i := 0) (M := 30) (L := 1) (nds := prsX) (Mx := k) (by omega) (upd_at ..) (by rw [upd_at]) (inv_X (by omega) (by omega)) (stt_X (by omega) hk4) (tj_change (by omega) _) (kl_change (by simp) (in64_small (by omega))) (good_change _ _ _ _ _ _ _) hev (by omega) (by omega) (by simp) (kz := 11) (by decide))
      rw [upd_at] at HA
      clear HCh hM1 hb1 hev
      go_wp2_with fail
      refine HA.out.mono ?_
      rintro e u2 ⟨A3, q3, c3, rfl, -, hM2, -⟩
      have HCa := Lib.hid (hM2.came (i := 0) (z := 1) (by omega) (upd_at ..))
      rw [upd_at] at HCa
      have HM2 := Lib.hid hM2
      clear HA hM2
      go_wp2_with fail
      refine HCa.out.mono ?_
      rintro e u3 ⟨rfl, hb3⟩
      have hM3 := HM2.out.below hb3
      have HW : Hid (Calls Try.prog 23 #[ptr d.A, .int .i64 rX, .int .i64 0] u3 fun e w' => e = .returned (.int .i64 (400 + ((i + 1 : Nat) : Int))) ∧ u3 = w') := by
        obtain ⟨FW, hW⟩ := hM3.ws
        exact nxW_way (k := 0) hW (inv_X (j := i + 1) (B := 5) (by omega) (by omega)).fit.ok (hit_X _)
      have HM3 : Hid (MB v1 (fun _ => False) d 0 0 h0 o0 (sX (min (i + 1) k)) u3) := by
        show MB _ _ _ _ _ _ _ _ _
        rw [hj']
        exact MB.mono ⟨hM3.me.reset, hM3.bel⟩ fun b e => e.elim
      obtain ⟨g0, -, -, -, -, -⟩ := hM3.cells
      clear HCa HM2 hb3 hM3 hj'
      go_wp2_with fail
      refine HW.out.mono ?_
      rintro e u4 ⟨rfl, rfl⟩
      clear HW g0
      go_wp2
      go_roundg (gk - 1)
      case measure => omega
      case rel => exact ⟨i + 1, by omega, by go_num, HM3.out⟩
    · have i2 : (k : Int) ≤ (i : Int) := by omega
      have hj : min i k = k := by omega
      have hj' : min (i + 1) k = k := by omega
      rw [hj] at HH
      have m1 : min (i : Int) (k : Int) = (k : Int) := by omega
      have m2 : min ((i : Int) + 1) (k : Int) = ((k : Nat) : Int) := by omega
      have hev : ev (tChange k prsX 1 0 (400 + (k : Int)) (401 + (i : Int))) (sX k) = ([2], sX (k), 7) := ev_X0 hk4
      have bZ := below_new wr (.cells #[.int .i64 rX] rfT)
      have hMZ : MB v1 (fun q => q = wr.heap.size) d 0 0 h0 o0 (sX k) (wr.alloc (.cells #[.int .i64 rX] rfT)) := HH.out.more bZ (fun q e => .inr ⟨by omega, by rw [e]; simp⟩) (.inl rfl)
      have HCh := Lib.hid (hMZ.change (me := 0) (M := k) (nds := prsX) (prs := prsX) (A := some ⟨wr.heap.size, 0, none⟩) (m := 1) (c0 := 1) (kp := 1) (wy := 0) (od := 400 + (k : Int)) (nw := 401 + (i : Int)) (by omega) HDM.out (fun x hx => ⟨hx, by rw [show x = (rX, ndX) from by simpa using hx]; unfold Nd.small ndX; simp⟩) (by simp) (sl_one9 (c_new rfl rfl)) (fun ad e => by injection e with e; rw [← e]) (in64_small (by omega)))
      clear hMZ bZ HH hj
      go_wp2_with fail
      refine HCh.out.mono ?_
      rintro e u1 ⟨a, b, rfl, hM1, hb1⟩
      have HA := Lib.hid (hM1.alone (i := 0) (M := 30) (L := 1) (nds := prsX) (Mx := k) (by omega) (upd_at ..) (by rw [upd_at]) (inv_X (by omega) (by omega)) (stt_X (by omega) hk4) (tj_change (by omega) _) (kl_change (by simp) (in64_small (by omega))) (good_change _ _ _ _ _ _ _) hev (by omega) (by omega) (by simp) (kz := 7) (by decide))
      rw [upd_at] at HA
      clear HCh hM1 hb1 hev
      go_wp2_with fail
      refine HA.out.mono ?_
      rintro e u2 ⟨A3, q3, c3, rfl, -, hM2, -⟩
      have HCa := Lib.hid (hM2.came (i := 0) (z := 2) (by omega) (upd_at ..))
      rw [upd_at] at HCa
      have HM2 := Lib.hid hM2
      clear HA hM2
      go_wp2_with fail
      refine HCa.out.mono ?_
      rintro e u3 ⟨rfl, hb3⟩
      have hM3 := HM2.out.below hb3
      have HW : Hid (Calls Try.prog 23 #[ptr d.A, .int .i64 rX, .int .i64 0] u3 fun e w' => e = .returned (.int .i64 (400 + ((k : Nat) : Int))) ∧ u3 = w') := by
        obtain ⟨FW, hW⟩ := hM3.ws
        exact nxW_way (k := 0) hW (inv_X (j := k) (B := 5) (by omega) (by omega)).fit.ok (hit_X _)
      have HM3 : Hid (MB v1 (fun _ => False) d 0 0 h0 o0 (sX (min (i + 1) k)) u3) := by
        show MB _ _ _ _ _ _ _ _ _
        rw [hj']
        exact MB.mono ⟨hM3.me.reset, hM3.bel⟩ fun b e => e.elim
      obtain ⟨g0, -, -, -, -, -⟩ := hM3.cells
      clear HCa HM2 hb3 hM3 hj'
      go_wp2_with fail
      refine HW.out.mono ?_
      rintro e u4 ⟨rfl, rfl⟩
      clear HW g0
      go_wp2
      go_roundg (gk - 1)
      case measure => omega
      case rel => exact ⟨i + 1, by omega, by go_num, HM3.out⟩
end Go.Proofs.Ytmhmgdpcibldlaa
