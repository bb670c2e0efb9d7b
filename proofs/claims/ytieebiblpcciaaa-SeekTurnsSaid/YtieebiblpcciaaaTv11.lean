/-
  Law SeekTurns: a way that is changed while one looks.
-/
import Derived.Test.YtieebiblpcciaaaTx11
namespace Go.Proofs.Ytieebiblpcciaaa
open Go.ChangeShapes Go.WideShapes Go.ChangeAt Go.RowKit
set_option linter.unusedVariables false
set_option linter.unusedSimpArgs false
set_option maxRecDepth 20000

set_option maxHeartbeats 2000000 in
theorem seekTurns_walk (A A' : Option Addr) (n c n' c' : Nat) (zs os : List Int) (key : Int) (late : Bool) (w : World) (h : Sl w A n c zs) (h' : Sl w A' n' c' os) :
    Calls Try.prog 10 #[.slice A n c, .slice A' n' c', .int .i64 key, .bool late] w fun e w' => e = .returned (.bool true) ∧ Below w.heap.size w w' := by
  have H1 := Lib.hid h
  have H2 := Lib.hid h'
  clear h h'
  go_enter Try.func10, Try.ntmps10
  go_wp2_with fail
  refine (awake11_walk w).mono ?_
  rintro e v1 ⟨rfl, b1⟩
  have HB1 := Lib.hid b1
  clear b1
  by_cases g1 : 3 < n
  · have i1 : (3 : Int) < (n : Int) := by omega
    clear H1 H2
    go_wp2
    go_ret
    exact ⟨rfl, HB1.out⟩
  have i1 : ¬ (3 : Int) < (n : Int) := by omega
  by_cases g2 : 3 < n'
  · have i2 : (3 : Int) < (n' : Int) := by omega
    clear H1 H2
    go_wp2
    go_ret
    exact ⟨rfl, HB1.out⟩
  have i2 : ¬ (3 : Int) < (n' : Int) := by omega
  have HR1 := Lib.hid (rising_walk A n c zs v1 (H1.out.below HB1.out) (by omega))
  have HN1 := Lib.hid g1
  have HN2 := Lib.hid g2
  clear g1 g2
  go_wp2_with fail
  refine HR1.out.mono ?_
  clear HR1
  rintro e v2 ⟨va, rfl, hoa⟩
  obtain ⟨pa, hpa⟩ : ∃ pa, risingL zs = pa := ⟨_, rfl⟩
  have hla : pa.length ≤ 3 := by rw [← hpa]; have := risingTo_length zs zs.length; have := H1.out.len; have := HN1.out; unfold risingL; omega
  rw [hpa] at hoa
  have hra : Prs v1.heap.size v2 va pa := hoa.1
  obtain ⟨PA, na, qa, rfl⟩ := hra.shape
  go_upto_region 6 with fail
  obtain ⟨V1, t9, hV1, ht9, bV1, eV1, sV1⟩ := Shc.new v2 (.bool true) (.bool false) (.slice PA na qa) (.slice none 0 0) (.slice none 0 0)
  rw [hV1, ht9]
  clear hV1
  have b21 : Below v1.heap.size v1 V1 := hoa.2.trans (bV1.mono hoa.2.size)
  have HBV1 : Hid (Below w.heap.size w V1) := HB1.out.trans (b21.mono HB1.out.size)
  have HRA : Hid (Prs 0 V1 (.slice PA na qa) pa) := (hra.next bV1).lower (Nat.zero_le _)
  have HE1 := Lib.hid eV1
  have HR2 := Lib.hid (rising_walk A' n' c' os V1 (H2.out.below HBV1.out) (by have := HN2.out; omega))
  have HLA := Lib.hid hla
  clear hoa hra hpa bV1 eV1 sV1 b21 hla ht9 HB1
  go_wp2_with fail
  refine HR2.out.mono ?_
  clear HR2
  rintro e v3 ⟨vb, rfl, hob⟩
  obtain ⟨pb, hpb⟩ : ∃ pb, risingL os = pb := ⟨_, rfl⟩
  have hlb : pb.length ≤ 3 := by rw [← hpb]; have := risingTo_length os os.length; have := H2.out.len; have := HN2.out; unfold risingL; omega
  rw [hpb] at hob
  have hrb : Prs V1.heap.size v3 vb pb := hob.1
  obtain ⟨PB, nb, qb, rfl⟩ := hrb.shape
  go_upto_region 7 with fail
  obtain ⟨V2, t10, hV2, ht10, bV2, eV2, sV2⟩ := Shc.new v3 (.bool true) (.bool false) (.slice PB nb qb) (.slice none 0 0) (.slice none 0 0)
  rw [hV2, ht10]
  clear hV2
  have b32 : Below V1.heap.size V1 V2 := hob.2.trans (bV2.mono hob.2.size)
  have HBV2 : Hid (Below w.heap.size w V2) := HBV1.out.trans (b32.mono HBV1.out.size)
  have HRA2 : Hid (Prs 0 V2 (.slice PA na qa) pa) := HRA.out.next b32
  have HRB2 : Hid (Prs 0 V2 (.slice PB nb qb) pb) := (hrb.next bV2).lower (Nat.zero_le _)
  have HE12 := Lib.hid (HE1.out.below b32)
  have HE22 := Lib.hid eV2
  have HLB := Lib.hid hlb
  obtain ⟨x0, x1, x2, x3, x4⟩ := HE12.out.cells
  clear hob hrb hpb bV2 eV2 sV2 b32 hlb ht10 HBV1 HRA HE1 H1 H2
  obtain ⟨V3, g, hV3, hg, bV3, eV3, sV3⟩ := Shc.new V2 (.bool true) (.bool false) (.slice PA na qa) (.slice none 0 0) (.slice none 0 0)
  have HWW := Lib.hid (world_Tu HLA.out (HRA2.out.next bV3) eV3)
  have HBV3 : Hid (Below w.heap.size w V3) := HBV2.out.trans (bV3.mono HBV2.out.size)
  have HRB3 : Hid (Prs 0 V3 (.slice PB nb qb) pb) := HRB2.out.next bV3
  have HE13 := Lib.hid (HE12.out.below bV3)
  have HE23 := Lib.hid (HE22.out.below bV3)
  have hna : na = pa.length := HRA2.out.lp.len
  have hnb : nb = pb.length := HRB2.out.lp.len
  have HNA := Lib.hid hna
  have HNB := Lib.hid hnb
  clear HBV2 HRA2 HRB2 HE12 HE22 bV3 eV3 sV3 hna hnb
  go_wp2_with fail
  (try rw [hV3]); (try rw [hg])
  clear hV3 hg x0 x1 x2 x3 x4
  refine HWW.out.mono ?_
  clear HWW
  rintro e w4 ⟨d, rfl, hM, hen⟩
  have HM := Lib.hid hM
  have HWY := Lib.hid (way_Tu hM)
  obtain ⟨g0, -, -, -, -, g5⟩ := hM.cells
  rw [hen] at g5
  have HEN := Lib.hid hen
  clear hM hen
  obtain ⟨r1, hr1⟩ : ∃ r1, m11 = r1 := ⟨_, rfl⟩
  obtain ⟨r3, hr3⟩ : ∃ r3, m31 = r3 := ⟨_, rfl⟩
  have HR1 := Lib.hid hr1
  have HR3 := Lib.hid hr3
  rw [hr1] at g5 HWY
  rw [hr3] at HWY
  clear hr1 hr3
  go_wp2_with fail
  go_quiet (first | (go_at_call 23; exact HWY.out _) | fail)
  go_upto_region 9 with fail
  obtain ⟨Y, hY⟩ : ∃ Y, (w4.drewN nq).drew = Y := ⟨_, rfl⟩
  have bY : Below w4.heap.size w4 Y := by rw [← hY]; exact (below_drewN (Below.refl _ w4) nq).drew
  have HMY := Lib.hid (HM.out.below bY)
  have g0Y := below_read bY g0
  have hC0 : (fun w' : World => w'.cell? ⟨d.W, 0, none⟩ = some (ptr d.A) ∧ w'.cell? ⟨t10, 2, none⟩ = some (.slice PB nb qb)) Y := ⟨g0Y, below_read (HM.out.bel.trans (bY.mono HM.out.bel.size)) HE23.out.cells.2.2.1⟩
  have hAL := alloc_Tu HMY.out HRB3.out HLB.out
  obtain ⟨r02, hr02⟩ : ∃ r, m02 = r := ⟨_, rfl⟩
  have HR02 := Lib.hid hr02
  rw [hr02] at hAL
  have HAL := Lib.hid hAL
  have HC0 := Lib.hid hC0
  clear hC0 hAL bY g0 g5 g0Y HM HWY hr02
  refine region_T (fun _ => false) (fun w' : World => w'.cell? ⟨d.W, 0, none⟩ = some (ptr d.A) ∧ w'.cell? ⟨t10, 2, none⟩ = some (.slice PB nb qb)) (by kernel_rfl) ?_
  rw [hY]
  clear hY
  have hC := HC0.out
  refine takeX 0 51 (v := ?_) rfl rfl (by kernel_rfl) (by kernel_rfl) (by kernel_rfl) (by kernel_rfl) (by kernel_rfl) (fun _ _ _ _ h => h) hC (by rfl) ?_ ?_
  rotate_left
  · intro w hSw; (try dsimp only at hSw); go_simp; try (with_reducible rfl)
  simp only [List.setIfInBounds_toArray, List.set_cons_zero, List.set_cons_succ]
  refine takeX 1 52 (v := ?_) rfl rfl (by kernel_rfl) (by kernel_rfl) (by kernel_rfl) (by kernel_rfl) (by kernel_rfl) (fun _ _ _ _ h => h) hC (by rfl) ?_ ?_
  rotate_left
  · intro w hSw; (try dsimp only at hSw); go_simp; try (with_reducible rfl)
  simp only [List.setIfInBounds_toArray, List.set_cons_zero, List.set_cons_succ]
  refine takeX 2 53 (v := ?_) rfl rfl (by kernel_rfl) (by kernel_rfl) (by kernel_rfl) (by kernel_rfl) (by kernel_rfl) (fun _ _ _ _ h => h) hC (by rfl) ?_ ?_
  rotate_left
  · intro w hSw; (try dsimp only at hSw); go_simp; try (with_reducible rfl)
  simp only [List.setIfInBounds_toArray, List.set_cons_zero, List.set_cons_succ]
  refine takeX 3 54 (v := ?_) rfl rfl (by kernel_rfl) (by kernel_rfl) (by kernel_rfl) (by kernel_rfl) (by kernel_rfl) (fun _ _ _ _ h => h) hC (by rfl) ?_ ?_
  rotate_left
  · intro w hSw; (try dsimp only at hSw); go_simp; try (with_reducible rfl)
  simp only [List.setIfInBounds_toArray, List.set_cons_zero, List.set_cons_succ]
  refine takeX 4 55 (v := ?_) rfl rfl (by kernel_rfl) (by kernel_rfl) (by kernel_rfl) (by kernel_rfl) (by kernel_rfl) (fun _ _ _ _ h => h) hC (by rfl) ?_ ?_
  rotate_left
  · intro w hSw; (try dsimp only at hSw); go_simp; try (with_reducible rfl)
  simp only [List.setIfInBounds_toArray, List.set_cons_zero, List.set_cons_succ]
  refine takeX 5 56 (v := ?_) rfl rfl (by kernel_rfl) (by kernel_rfl) (by kernel_rfl) (by kernel_rfl) (by kernel_rfl) (fun _ _ _ _ h => h) hC (by rfl) ?_ ?_
  rotate_left
  · intro w hSw; (try dsimp only at hSw); go_simp; try (with_reducible rfl)
  simp only [List.setIfInBounds_toArray, List.set_cons_zero, List.set_cons_succ]
  refine takeX 6 57 (v := ?_) rfl rfl (by kernel_rfl) (by kernel_rfl) (by kernel_rfl) (by kernel_rfl) (by kernel_rfl) (fun _ _ _ _ h => h) hC (by rfl) ?_ ?_
  rotate_left
  · intro w hSw; (try dsimp only at hSw); go_simp; try (with_reducible rfl)
  simp only [List.setIfInBounds_toArray, List.set_cons_zero, List.set_cons_succ]
  refine oneT (i := 7) (by kernel_rfl) rfl (by rfl) (fun K hK => ?_)
  go_simp
  refine HAL.out.mono ?_
  rintro e w5 ⟨bb, rfl, hM5⟩
  have HM5 := Lib.hid hM5
  have hC5 : (fun w' : World => w'.cell? ⟨d.W, 0, none⟩ = some (ptr d.A) ∧ w'.cell? ⟨t10, 2, none⟩ = some (.slice PB nb qb)) w5 := ⟨hM5.cells.1, below_read hM5.bel HE23.out.cells.2.2.1⟩
  refine hK.out _ _ (fun _ => hC5) ?_
  clear hK K hC hM5 HAL HC0 HMY
  try simp only [Act.put, List.setIfInBounds_toArray, List.set_cons_zero, List.set_cons_succ]
  have hC := hC5
  refine takeX 8 50 (v := ?_) rfl rfl (by kernel_rfl) (by kernel_rfl) (by kernel_rfl) (by kernel_rfl) (by kernel_rfl) (fun _ _ _ _ h => h) hC (by rfl) ?_ ?_
  rotate_left
  · intro w hSw; (try dsimp only at hSw); go_simp; try (with_reducible rfl)
  simp only [List.setIfInBounds_toArray, List.set_cons_zero, List.set_cons_succ]
  refine takeX 9 59 (v := ?_) rfl rfl (by kernel_rfl) (by kernel_rfl) (by kernel_rfl) (by kernel_rfl) (by kernel_rfl) (fun _ _ _ _ h => h) hC (by rfl) ?_ ?_
  rotate_left
  · intro w hSw; (try dsimp only at hSw); go_simp; try (with_reducible rfl)
  simp only [List.setIfInBounds_toArray, List.set_cons_zero, List.set_cons_succ]
  refine takeX 10 60 (v := ?_) rfl rfl (by kernel_rfl) (by kernel_rfl) (by kernel_rfl) (by kernel_rfl) (by kernel_rfl) (fun _ _ _ _ h => h) hC (by rfl) ?_ ?_
  rotate_left
  · intro w hSw; (try dsimp only at hSw); go_simp; try (with_reducible rfl)
  simp only [List.setIfInBounds_toArray, List.set_cons_zero, List.set_cons_succ]
  refine takeX 11 13 (v := ?_) rfl rfl (by kernel_rfl) (by kernel_rfl) (by kernel_rfl) (by kernel_rfl) (by kernel_rfl) (fun _ _ _ _ h => h) hC (by rfl) ?_ ?_
  rotate_left
  · intro w hSw; (try dsimp only at hSw); go_simp; try (with_reducible rfl)
  simp only [List.setIfInBounds_toArray, List.set_cons_zero, List.set_cons_succ]
  refine takeX 12 14 (v := ?_) rfl rfl (by kernel_rfl) (by kernel_rfl) (by kernel_rfl) (by kernel_rfl) (by kernel_rfl) (fun _ _ _ _ h => h) hC (by rfl) ?_ ?_
  rotate_left
  · intro w hSw; (try dsimp only at hSw); go_simp; try (with_reducible rfl)
  simp only [List.setIfInBounds_toArray, List.set_cons_zero, List.set_cons_succ]
  clear hC hC5
  refine doneT (by kernel_rfl) ?_
  have HL := Lib.hid (walker_Tu (key := key) HM5.out HEN.out HLA.out HLB.out)
  have HBW5 : Hid (Below w.heap.size w V3) := HBV3.out
  clear HM5
  go_wp2_with fail
  refine HL.out.mono ?_
  clear HL
  rintro e w6 ⟨a, rfl, hT6⟩
  have HS1 := Lib.hid (hT6.step1 (by omega))
  clear hT6
  go_wp2_with fail
  refine HS1.out.mono ?_
  clear HS1
  rintro e w7 ⟨rfl, hT7⟩
  have HT7 := Lib.hid hT7
  clear hT7
  cases late with
  | false =>
    go_upto_region 14 with fail
    obtain ⟨Y, hY, bY⟩ : ∃ Y, w7.drew = Y ∧ Below w7.heap.size w7 Y := ⟨_, rfl, (Below.refl _ w7).drew⟩
    have HTY := Lib.hid (HT7.out.below bY)
    have hWA := HTY.out.way
    obtain ⟨r21, hr21⟩ : ∃ r, m21 = r := ⟨_, rfl⟩
    have HR21 := Lib.hid hr21
    rw [hr21, HR3.out] at hWA
    have HWA := Lib.hid hWA
    have HSW : Hid (Calls Try.prog 59 #[ptr d.A, .int .i64 r3, .int .i64 0, .int .i64 r21, .int .i64 r02] Y fun e w' => e = .returned (boolV 1) ∧ TH V3 d a pa pb (0 + 1) (.run (tW (ndsTu pa pb) rkTu key 2 m31 [st1])) (sgB pa pb m02) w') := by
      show Calls _ _ _ _ _
      rw [← HR21.out, ← HR3.out, ← HR02.out]
      exact HTY.out.swap
    have g0 := HTY.out.cell
    clear hWA hr21 bY HT7
    refine region_T (fun k => Nat.ble 12 k) (fun w' : World => w'.cell? ⟨d.W, 0, none⟩ = some (ptr d.A)) (by kernel_rfl) ?_
    rw [hY]
    clear hY
    have hC := g0
    refine takeX 0 69 (v := ?_) rfl rfl (by kernel_rfl) (by kernel_rfl) (by kernel_rfl) (by kernel_rfl) (by kernel_rfl) (fun _ _ _ _ h => h) hC (by rfl) ?_ ?_
    rotate_left
    · intro w hSw; (try dsimp only at hSw); go_simp; try (with_reducible rfl)
    simp only [List.setIfInBounds_toArray, List.set_cons_zero, List.set_cons_succ]
    refine takeX 1 70 (v := ?_) rfl rfl (by kernel_rfl) (by kernel_rfl) (by kernel_rfl) (by kernel_rfl) (by kernel_rfl) (fun _ _ _ _ h => h) hC (by rfl) ?_ ?_
    rotate_left
    · intro w hSw; (try dsimp only at hSw); go_simp; try (with_reducible rfl)
    simp only [List.setIfInBounds_toArray, List.set_cons_zero, List.set_cons_succ]
    refine takeX 2 71 (v := ?_) rfl rfl (by kernel_rfl) (by kernel_rfl) (by kernel_rfl) (by kernel_rfl) (by kernel_rfl) (fun _ _ _ _ h => h) hC (by rfl) ?_ ?_
    rotate_left
    · intro w hSw; (try dsimp only at hSw); go_simp; try (with_reducible rfl)
    simp only [List.setIfInBounds_toArray, List.set_cons_zero, List.set_cons_succ]
    refine takeX 3 72 (v := ?_) rfl rfl (by kernel_rfl) (by kernel_rfl) (by kernel_rfl) (by kernel_rfl) (by kernel_rfl) (fun _ _ _ _ h => h) hC (by rfl) ?_ ?_
    rotate_left
    · intro w hSw; (try dsimp only at hSw); go_simp; try (with_reducible rfl)
    simp only [List.setIfInBounds_toArray, List.set_cons_zero, List.set_cons_succ]
    refine takeX 4 73 (v := ?_) rfl rfl (by kernel_rfl) (by kernel_rfl) (by kernel_rfl) (by kernel_rfl) (by kernel_rfl) (fun _ _ _ _ h => h) hC (by rfl) ?_ ?_
    rotate_left
    · intro w hSw; (try dsimp only at hSw); go_simp; try (with_reducible rfl)
    simp only [List.setIfInBounds_toArray, List.set_cons_zero, List.set_cons_succ]
    refine takeX 5 74 (v := ?_) rfl rfl (by kernel_rfl) (by kernel_rfl) (by kernel_rfl) (by kernel_rfl) (by kernel_rfl) (fun _ _ _ _ h => h) hC (by rfl) ?_ ?_
    rotate_left
    · intro w hSw; (try dsimp only at hSw); go_simp; try (with_reducible rfl)
    simp only [List.setIfInBounds_toArray, List.set_cons_zero, List.set_cons_succ]
    refine takeX 6 75 (v := ?_) rfl rfl (by kernel_rfl) (by kernel_rfl) (by kernel_rfl) (by kernel_rfl) (by kernel_rfl) (fun _ _ _ _ h => h) hC (by rfl) ?_ ?_
    rotate_left
    · intro w hSw; (try dsimp only at hSw); go_simp; try (with_reducible rfl)
    simp only [List.setIfInBounds_toArray, List.set_cons_zero, List.set_cons_succ]
    refine takeX 7 76 (v := ?_) rfl rfl (by kernel_rfl) (by kernel_rfl) (by kernel_rfl) (by kernel_rfl) (by kernel_rfl) (fun _ _ _ _ h => h) hC (by rfl) ?_ ?_
    rotate_left
    · intro w hSw; (try dsimp only at hSw); go_simp; try (with_reducible rfl)
    simp only [List.setIfInBounds_toArray, List.set_cons_zero, List.set_cons_succ]
    refine takeX 8 77 (v := ?_) rfl rfl (by kernel_rfl) (by kernel_rfl) (by kernel_rfl) (by kernel_rfl) (by kernel_rfl) (fun _ _ _ _ h => h) hC (by rfl) ?_ ?_
    rotate_left
    · intro w hSw; (try dsimp only at hSw); go_simp; try (with_reducible rfl)
    simp only [List.setIfInBounds_toArray, List.set_cons_zero, List.set_cons_succ]
    refine takeX 9 78 (v := ?_) rfl rfl (by kernel_rfl) (by kernel_rfl) (by kernel_rfl) (by kernel_rfl) (by kernel_rfl) (fun _ _ _ _ h => h) hC (by rfl) ?_ ?_
    rotate_left
    · intro w hSw; (try dsimp only at hSw); go_simp; try (with_reducible rfl)
    simp only [List.setIfInBounds_toArray, List.set_cons_zero, List.set_cons_succ]
    refine takeX 11 80 (v := ?_) rfl rfl (by kernel_rfl) (by kernel_rfl) (by kernel_rfl) (by kernel_rfl) (by kernel_rfl) (fun _ _ _ _ h => h) hC (by rfl) ?_ ?_
    rotate_left
    · intro w hSw; (try dsimp only at hSw); go_simp; try (with_reducible rfl)
    simp only [List.setIfInBounds_toArray, List.set_cons_zero, List.set_cons_succ]
    refine oneT (i := 10) (by kernel_rfl) rfl (by rfl) (fun K hK => ?_)
    go_simp
    refine HWA.out.mono ?_
    clear HWA
    rintro e w8 ⟨rfl, rfl⟩
    refine hK.out _ _ (fun _ => hC) ?_
    clear hK K
    try simp only [Act.put, List.setIfInBounds_toArray, List.set_cons_zero, List.set_cons_succ]
    refine oneT (i := 12) (by kernel_rfl) rfl (by rfl) (fun K hK => ?_)
    go_simp
    refine HSW.out.mono ?_
    clear HSW
    rintro e w9 ⟨rfl, hT9⟩
    refine hK.out _ _ (fun h => absurd h (by decide)) ?_
    clear hK K hC g0
    try simp only [Act.put, List.setIfInBounds_toArray, List.set_cons_zero, List.set_cons_succ]
    refine doneT (by kernel_rfl) ?_
    have HAL := Lib.hid (hT9.alone (by omega))
    clear hT9 HTY
    go_wp2_with fail
    refine HAL.out.mono ?_
    clear HAL
    rintro e w10 ⟨A1, q1, c1, kz, rfl, hT10⟩
    have HO := Lib.hid (hT10.out (by simp))
    have HT10 := Lib.hid hT10
    clear hT10
    go_wp2_with fail
    refine HO.out.mono ?_
    clear HO
    rintro e w11 ⟨A2, m2, q2, rfl, hr, hb11⟩
    have hs := hr.sl
    obtain rfl : m2 = 9 := hs.len
    obtain ⟨g2, off, rfl, hg2, hc6⟩ := hs.at_ (k := 6) (by simp)
    obtain ⟨g3, off3, hgo, hg3, hc8⟩ := hs.at_ (k := 8) (by simp)
    injection hgo with hgo
    injection hgo with e1 e2
    subst e1 e2
    have bV11 : Below V3.heap.size V3 w11 := HT10.out.bel.trans (hb11.mono HT10.out.bel.size)
    have f9 := below_read bV11 HE13.out.cells.2.2.1
    have f10 := below_read bV11 HE23.out.cells.2.2.1
    replace hc6 : w11.cell? ⟨g2, off + 6, none⟩ = some (.int .i64 m02) := hc6
    replace hc8 : w11.cell? ⟨g2, off + 8, none⟩ = some (.int .i64 (-1 - (pb.length : Int))) := hc8
    have hlen : (pb.length : Int) = (nb : Int) := by have := HNB.out; omega
    rw [hlen] at hc8
    have hwr : IntKind.i64.wrap (-1 - (nb : Int)) = -1 - (nb : Int) := IntWalk.i64_in _ (by have := HLB.out; have := HNB.out; omega)
    have HEND : Hid (Below w.heap.size w w11) := HBV3.out.trans (bV11.mono HBV3.out.size)
    rw [HR02.out] at hc6
    clear hr hb11 hs hg2 hg3 bV11 HT10 HE13 HE23 hlen HRB3
    go_wp2
    go_ret
    exact ⟨by first | rfl | simp, HEND.out⟩
  | true =>
    have HS2 := Lib.hid (HT7.out.step2 (by omega))
    clear HT7
    go_wp2_with fail
    refine HS2.out.mono ?_
    clear HS2
    rintro e w7b ⟨rfl, hT8⟩
    have HT8 := Lib.hid hT8
    clear hT8
    go_upto_region 14 with fail
    obtain ⟨Y, hY, bY⟩ : ∃ Y, w7b.drew = Y ∧ Below w7b.heap.size w7b Y := ⟨_, rfl, (Below.refl _ w7b).drew⟩
    have HTY := Lib.hid (HT8.out.below bY)
    have hWA := HTY.out.way
    obtain ⟨r21, hr21⟩ : ∃ r, m21 = r := ⟨_, rfl⟩
    have HR21 := Lib.hid hr21
    rw [hr21, HR3.out] at hWA
    have HWA := Lib.hid hWA
    have HSW : Hid (Calls Try.prog 59 #[ptr d.A, .int .i64 r3, .int .i64 0, .int .i64 r21, .int .i64 r02] Y fun e w' => e = .returned (boolV 1) ∧ TH V3 d a pa pb (0 + 1 + 1) (.fin [m11, 0, 0, m31, 0, 0, m21, 0, -1 - (pa.length : Int)]) (sgB pa pb m02) w') := by
      show Calls _ _ _ _ _
      rw [← HR21.out, ← HR3.out, ← HR02.out]
      exact HTY.out.swap
    have g0 := HTY.out.cell
    clear hWA hr21 bY HT8
    refine region_T (fun k => Nat.ble 12 k) (fun w' : World => w'.cell? ⟨d.W, 0, none⟩ = some (ptr d.A)) (by kernel_rfl) ?_
    rw [hY]
    clear hY
    have hC := g0
    refine takeX 0 69 (v := ?_) rfl rfl (by kernel_rfl) (by kernel_rfl) (by kernel_rfl) (by kernel_rfl) (by kernel_rfl) (fun _ _ _ _ h => h) hC (by rfl) ?_ ?_
    rotate_left
    · intro w hSw; (try dsimp only at hSw); go_simp; try (with_reducible rfl)
    simp only [List.setIfInBounds_toArray, List.set_cons_zero, List.set_cons_succ]
    refine takeX 1 70 (v := ?_) rfl rfl (by kernel_rfl) (by kernel_rfl) (by kernel_rfl) (by kernel_rfl) (by kernel_rfl) (fun _ _ _ _ h => h) hC (by rfl) ?_ ?_
    rotate_left
    · intro w hSw; (try dsimp only at hSw); go_simp; try (with_reducible rfl)
    simp only [List.setIfInBounds_toArray, List.set_cons_zero, List.set_cons_succ]
    refine takeX 2 71 (v := ?_) rfl rfl (by kernel_rfl) (by kernel_rfl) (by kernel_rfl) (by kernel_rfl) (by kernel_rfl) (fun _ _ _ _ h => h) hC (by rfl) ?_ ?_
    rotate_left
    · intro w hSw; (try dsimp only at hSw); go_simp; try (with_reducible rfl)
    simp only [List.setIfInBounds_toArray, List.set_cons_zero, List.set_cons_succ]
    refine takeX 3 72 (v := ?_) rfl rfl (by kernel_rfl) (by kernel_rfl) (by kernel_rfl) (by kernel_rfl) (by kernel_rfl) (fun _ _ _ _ h => h) hC (by rfl) ?_ ?_
    rotate_left
    · intro w hSw; (try dsimp only at hSw); go_simp; try (with_reducible rfl)
    simp only [List.setIfInBounds_toArray, List.set_cons_zero, List.set_cons_succ]
    refine takeX 4 73 (v := ?_) rfl rfl (by kernel_rfl) (by kernel_rfl) (by kernel_rfl) (by kernel_rfl) (by kernel_rfl) (fun _ _ _ _ h => h) hC (by rfl) ?_ ?_
    rotate_left
    · intro w hSw; (try dsimp only at hSw); go_simp; try (with_reducible rfl)
    simp only [List.setIfInBounds_toArray, List.set_cons_zero, List.set_cons_succ]
    refine takeX 5 74 (v := ?_) rfl rfl (by kernel_rfl) (by kernel_rfl) (by kernel_rfl) (by kernel_rfl) (by kernel_rfl) (fun _ _ _ _ h => h) hC (by rfl) ?_ ?_
    rotate_left
    · intro w hSw; (try dsimp only at hSw); go_simp; try (with_reducible rfl)
    simp only [List.setIfInBounds_toArray, List.set_cons_zero, List.set_cons_succ]
    refine takeX 6 75 (v := ?_) rfl rfl (by kernel_rfl) (by kernel_rfl) (by kernel_rfl) (by kernel_rfl) (by kernel_rfl) (fun _ _ _ _ h => h) hC (by rfl) ?_ ?_
    rotate_left
    · intro w hSw; (try dsimp only at hSw); go_simp; try (with_reducible rfl)
    simp only [List.setIfInBounds_toArray, List.set_cons_zero, List.set_cons_succ]
    refine takeX 7 76 (v := ?_) rfl rfl (by kernel_rfl) (by kernel_rfl) (by kernel_rfl) (by kernel_rfl) (by kernel_rfl) (fun _ _ _ _ h => h) hC (by rfl) ?_ ?_
    rotate_left
    · intro w hSw; (try dsimp only at hSw); go_simp; try (with_reducible rfl)
    simp only [List.setIfInBounds_toArray, List.set_cons_zero, List.set_cons_succ]
    refine takeX 8 77 (v := ?_) rfl rfl (by kernel_rfl) (by kernel_rfl) (by kernel_rfl) (by kernel_rfl) (by kernel_rfl) (fun _ _ _ _ h => h) hC (by rfl) ?_ ?_
    rotate_left
    · intro w hSw; (try dsimp only at hSw); go_simp; try (with_reducible rfl)
    simp only [List.setIfInBounds_toArray, List.set_cons_zero, List.set_cons_succ]
    refine takeX 9 78 (v := ?_) rfl rfl (by kernel_rfl) (by kernel_rfl) (by kernel_rfl) (by kernel_rfl) (by kernel_rfl) (fun _ _ _ _ h => h) hC (by rfl) ?_ ?_
    rotate_left
    · intro w hSw; (try dsimp only at hSw); go_simp; try (with_reducible rfl)
    simp only [List.setIfInBounds_toArray, List.set_cons_zero, List.set_cons_succ]
    refine takeX 11 80 (v := ?_) rfl rfl (by kernel_rfl) (by kernel_rfl) (by kernel_rfl) (by kernel_rfl) (by kernel_rfl) (fun _ _ _ _ h => h) hC (by rfl) ?_ ?_
    rotate_left
    · intro w hSw; (try dsimp only at hSw); go_simp; try (with_reducible rfl)
    simp only [List.setIfInBounds_toArray, List.set_cons_zero, List.set_cons_succ]
    refine oneT (i := 10) (by kernel_rfl) rfl (by rfl) (fun K hK => ?_)
    go_simp
    refine HWA.out.mono ?_
    clear HWA
    rintro e w8 ⟨rfl, rfl⟩
    refine hK.out _ _ (fun _ => hC) ?_
    clear hK K
    try simp only [Act.put, List.setIfInBounds_toArray, List.set_cons_zero, List.set_cons_succ]
    refine oneT (i := 12) (by kernel_rfl) rfl (by rfl) (fun K hK => ?_)
    go_simp
    refine HSW.out.mono ?_
    clear HSW
    rintro e w9 ⟨rfl, hT9⟩
    refine hK.out _ _ (fun h => absurd h (by decide)) ?_
    clear hK K hC g0
    try simp only [Act.put, List.setIfInBounds_toArray, List.set_cons_zero, List.set_cons_succ]
    refine doneT (by kernel_rfl) ?_
    have HAL := Lib.hid (hT9.aloneF (by omega) (by simp))
    clear hT9 HTY
    go_wp2_with fail
    refine HAL.out.mono ?_
    clear HAL
    rintro e w10 ⟨A1, q1, c1, kz, rfl, hT10⟩
    have HO := Lib.hid (hT10.out (by simp))
    have HT10 := Lib.hid hT10
    clear hT10
    go_wp2_with fail
    refine HO.out.mono ?_
    clear HO
    rintro e w11 ⟨A2, m2, q2, rfl, hr, hb11⟩
    have hs := hr.sl
    obtain rfl : m2 = 9 := hs.len
    obtain ⟨g2, off, rfl, hg2, hc6⟩ := hs.at_ (k := 6) (by simp)
    obtain ⟨g3, off3, hgo, hg3, hc8⟩ := hs.at_ (k := 8) (by simp)
    injection hgo with hgo
    injection hgo with e1 e2
    subst e1 e2
    have bV11 : Below V3.heap.size V3 w11 := HT10.out.bel.trans (hb11.mono HT10.out.bel.size)
    have f9 := below_read bV11 HE13.out.cells.2.2.1
    have f10 := below_read bV11 HE23.out.cells.2.2.1
    replace hc6 : w11.cell? ⟨g2, off + 6, none⟩ = some (.int .i64 m21) := hc6
    replace hc8 : w11.cell? ⟨g2, off + 8, none⟩ = some (.int .i64 (-1 - (pa.length : Int))) := hc8
    have hlen : (pa.length : Int) = (na : Int) := by have := HNA.out; omega
    rw [hlen] at hc8
    have hwr : IntKind.i64.wrap (-1 - (na : Int)) = -1 - (na : Int) := IntWalk.i64_in _ (by have := HLA.out; have := HNA.out; omega)
    have HEND : Hid (Below w.heap.size w w11) := HBV3.out.trans (bV11.mono HBV3.out.size)
    rw [HR21.out] at hc6
    have hne : (r21 == r02) = false := by rw [← HR21.out, ← HR02.out]; decide
    have hne2 : ¬ r21 = r02 := by rw [← HR21.out, ← HR02.out]; decide
    clear hr hb11 hs hg2 hg3 bV11 HT10 HE13 HE23 hlen HRB3
    go_wp2
    go_ret
    exact ⟨by first | rfl | simp, HEND.out⟩
end Go.Proofs.Ytieebiblpcciaaa
