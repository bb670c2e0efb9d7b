/-
  The law HelpRivals.
-/
import Derived.Test.YtfloblofdkemlaaRy9
namespace Go.Proofs.Ytfloblofdkemlaa
open Go.ChangeShapes Go.WideShapes Go.ChangeAt Go.RowKit
set_option linter.unusedVariables false
set_option linter.unusedSimpArgs false
set_option maxRecDepth 20000

theorem common_all : ∀ sa, sa < 32 → ∀ sb, sb < 32 → decide (sa &&& sb = 0) = !((List.range 5).any fun i => bitR sa i && bitR sb i) := by decide +kernel
theorem common_no {sa sb : Nat} (ha : sa < 32) (hb : sb < 32) : (sa &&& sb = 0) ↔ ¬ ∃ i, i ∈ lstR sa 5 ∧ i ∈ lstR sb 5 := by
  have h := common_all sa ha sb hb
  have e : ((List.range 5).any fun i => bitR sa i && bitR sb i) = true ↔ ∃ i, i ∈ lstR sa 5 ∧ i ∈ lstR sb 5 := by
    rw [List.any_eq_true]
    constructor
    · rintro ⟨i, h1, h2⟩
      rw [Bool.and_eq_true] at h2
      have hi := List.mem_range.1 h1
      exact ⟨i, lstR_mem.2 ⟨hi, of_decide_eq_true h2.1⟩, lstR_mem.2 ⟨hi, of_decide_eq_true h2.2⟩⟩
    · rintro ⟨i, h1, h2⟩
      have h1 := lstR_mem.1 h1
      have h2 := lstR_mem.1 h2
      exact ⟨i, List.mem_range.2 h1.1, by rw [Bool.and_eq_true]; exact ⟨decide_eq_true h1.2, decide_eq_true h2.2⟩⟩
  rw [← e]
  cases hb : ((List.range 5).any fun i => bitR sa i && bitR sb i) with
  | true =>
    rw [hb] at h
    have := of_decide_eq_false h
    constructor
    · exact fun e => absurd e this
    · exact fun e => absurd rfl e
  | false =>
    rw [hb] at h
    exact ⟨fun _ => by simp, fun _ => of_decide_eq_true h⟩
set_option maxHeartbeats 8000000 in
theorem helpRivals_walk (x y : Nat) (z : Bool) (A0 : Option Addr) (n0 c0 : Nat) (l : List Int) (hx : x < 256) (hy : y < 256) (w : World) (hs : Sk .u8 0 255 w A0 n0 l) :
    Calls Try.prog 6 #[.int .u8 (x : Int), .int .u8 (y : Int), .bool z, .slice A0 n0 c0] w fun e w' => e = .returned (.bool true) ∧ Below w.heap.size w w' := by
  have HSK := Lib.hid hs
  obtain ⟨sa, hsa, hsa2⟩ : ∃ sa : Nat, x % 32 = sa ∧ sa < 32 := ⟨_, rfl, by omega⟩
  obtain ⟨sb, hsb, hsb2⟩ : ∃ sb : Nat, y % 32 = sb ∧ sb < 32 := ⟨_, rfl, by omega⟩
  obtain ⟨xy, hxy⟩ : ∃ xy : Nat, x &&& y = xy := ⟨_, rfl⟩
  obtain ⟨cm, hcm⟩ : ∃ cm : Nat, xy % 32 = cm := ⟨_, rfl⟩
  have d1 : (x : Int).tmod 32 = (sa : Int) := by rw [← hsa, Int.tmod_eq_emod_of_nonneg (by omega)]; rfl
  have d2 : (y : Int).tmod 32 = (sb : Int) := by rw [← hsb, Int.tmod_eq_emod_of_nonneg (by omega)]; rfl
  have w1 : IntKind.u8.wrap (sa : Int) = (sa : Int) := by simp only [IntKind.wrap_u8]; omega
  have w2 : IntKind.u8.wrap (sb : Int) = (sb : Int) := by simp only [IntKind.wrap_u8]; omega
  have HBIT : Hid (bits .and .u8 (x : Int) (y : Int) = (xy : Int) ∧ (xy : Int).tmod 32 = (cm : Int) ∧ IntKind.u8.wrap (cm : Int) = (cm : Int)) := by
    refine ⟨by rw [← hxy]; exact u8_and_nat x y hx hy, ?_, ?_⟩
    · rw [← hcm, Int.tmod_eq_emod_of_nonneg (by omega)]; rfl
    · simp only [IntKind.wrap_u8]; omega
  have HCM : Hid (cm = 0 ↔ ¬ ∃ i, i ∈ lstR sa 5 ∧ i ∈ lstR sb 5) := by
    have e : cm = sa &&& sb := by
      rw [← hcm, ← hxy, ← hsa, ← hsb]
      exact Nat.and_mod_two_pow (n := 5)
    show _ ↔ _
    rw [e]
    exact common_no hsa2 hsb2
  clear hs hsa hsb hcm hxy
  go_enter Try.func6, Try.ntmps6
  go_wp2_with fail
  refine (awake9_walk w).mono ?_
  rintro e v1 ⟨rfl, b1⟩
  by_cases h100 : 100 < n0
  · have i1 : (100 : Int) < (n0 : Int) := by omega
    go_wp2
    go_ret
    exact ⟨rfl, b1⟩
  have i100 : ¬ (100 : Int) < (n0 : Int) := by omega
  by_cases ha0 : sa = 0
  · have i1 : (sa : Int) = 0 := by omega
    subst ha0
    go_wp2
    go_ret
    exact ⟨rfl, b1⟩
  have ia0 : ¬ (sa : Int) = 0 := by omega
  have qa0 : ((sa : Int) == 0) = false := by simpa using ia0
  by_cases hb0 : sb = 0
  · subst hb0
    go_wp2
    go_ret
    exact ⟨rfl, b1⟩
  have ib0 : ¬ (sb : Int) = 0 := by omega
  have qb0 : ((sb : Int) == 0) = false := by simpa using ib0
  have q100 : decide ((100 : Int) < (n0 : Int)) = false := decide_eq_false i100
  go_wp2_with fail
  refine (nodes_walk 4 5 (by omega) (by omega) v1).mono ?_
  rintro e v2 ⟨d, A, m, c, rfl, hNd⟩
  have HB1 := Lib.hid b1
  have HDM := Lib.hid hNd.dm
  obtain ⟨A', c', hv, hsl, hX⟩ := hNd.rowX.len
  injection hv with e5 e2 e4
  subst e5 e4
  rw [refN_len] at e2
  subst e2
  have HND := Lib.hid hNd
  have HN0 : Hid (n0 ≤ 100) := Nat.le_of_not_lt h100
  clear hNd hsl hX b1 i100 h100
  go_wp2_with fail
  refine (rival_walk sa 98 HND.out.mb (fun b e => e.2) HND.out.rowX (by omega) (by show 0 < d.m; rw [HDM.out]; omega) (by rw [HDM.out]; omega)).mono ?_
  rintro e u1 ⟨Ax, mx, cx, Bx, nx, ex, he, hmb, hk, hrow, hown⟩
  have he : e = .returned (.tuple #[.agg #[.slice Ax mx cx, .slice Bx nx ex, .int .i64 1, .int .i64 0, .int .i64 (odR sa 5), .int .i64 98], .int .i64 1]) := he
  subst he
  obtain ⟨u2, bx, hu2, hbx, h6, hq⟩ := rq_a (w := v2) hmb hk hrow hown
  obtain ⟨u3, hu3⟩ : ∃ u3, put6 u2 bx (.slice Ax mx cx) (.slice Bx nx ex) 1 0 (odR sa 5) 98 = u3 := ⟨_, rfl⟩
  rw [hu3] at hq
  have HQ1 := Lib.hid hq
  obtain ⟨z0, z1, z2, z3, z4, z5⟩ := h6.cells
  obtain ⟨f0, f1, f2, f3, f4, f5⟩ := h6.frees
  clear hmb hk hrow hown hq h6
  go_wp2_with fail
  (try rw [hu2]); (try rw [hbx]); (try rw [hu3])
  clear z0 z1 z2 z3 z4 z5 f0 f1 f2 f3 f4 f5 hu2 hbx hu3
  have HX1 : Hid (∀ b, (ownX v1 (.slice A 5 c) b ∨ ownX v1 (.slice Ax mx cx) b ∨ b = bx) → v1.heap.size ≤ b) := by
    rintro b (e | e | e)
    · exact e.2
    · exact e.2
    · subst e; exact HQ1.out.ob
  have HR1 : Hid (RowX (fun b => ownX v1 (.slice A 5 c) b ∨ ownX v1 (.slice Ax mx cx) b ∨ b = bx) rfT u3 (.slice A 5 c) (refN 5)) := ⟨own_at HND.out.row fun b e => HQ1.out.kx b ⟨e, HND.out.own b e⟩, fun b e => .inl ⟨e, HND.out.own b e⟩⟩
  refine (rival_walk sb 99 HQ1.out.mb HX1.out HR1.out (by omega) (by show 1 < d.m; rw [HDM.out]; omega) (by rw [HDM.out]; omega)).mono ?_
  rintro e u4 ⟨Ay, my, cy, By, ny, ey, he, hmb, hk, hrow, hown⟩
  have he : e = .returned (.tuple #[.agg #[.slice Ay my cy, .slice By ny ey, .int .i64 1, .int .i64 0, .int .i64 (odR sb 5), .int .i64 99], .int .i64 2]) := he
  subst he
  obtain ⟨u5, bz, hu2, hbx, h6, hq⟩ := rq_a (w := u3) hmb hk hrow hown
  obtain ⟨u6, hu3⟩ : ∃ u3, put6 u5 bz (.slice Ay my cy) (.slice By ny ey) 1 0 (odR sb 5) 99 = u3 := ⟨_, rfl⟩
  rw [hu3] at hq
  have HQ2 := Lib.hid hq
  obtain ⟨z0, z1, z2, z3, z4, z5⟩ := h6.cells
  obtain ⟨f0, f1, f2, f3, f4, f5⟩ := h6.frees
  clear hmb hk hrow hown hq h6
  go_wp2_with fail
  (try rw [hu2]); (try rw [hbx]); (try rw [hu3])
  clear z0 z1 z2 z3 z4 z5 f0 f1 f2 f3 f4 f5 hu2 hbx hu3
  obtain ⟨q, hq⟩ : ∃ q, qR sa sb = q := ⟨_, rfl⟩
  have hqr := qR_r (a := sa) (b := sb) hsa2 hsb2 ha0 hb0
  have hok := qR_ok (a := sa) (b := sb) hsa2 hsb2 ha0 hb0
  have hHM := RM.new HND.out.row HND.out.own HQ1.out HQ2.out
  have hsg : ({ (sN 4 5 ns0 []) with rs := (sN 4 5 ns0 []).rs ++ [⟨rR sa 98, 1, false⟩] ++ [⟨rR sb 99, 1, false⟩] } : Sig) = sR (qR sa sb) ns0 (fun _ => 1) (fun _ => false) := by
    unfold sR
    rw [hqr.1, hqr.2]
    rfl
  rw [hsg] at hHM
  rw [hq] at hHM hok
  have HOK := Lib.hid hok
  have HQL : Hid (q.l 0 = lstR sa 5 ∧ q.l 1 = lstR sb 5) := by rw [← hq]; exact ⟨rfl, rfl⟩
  have HG0 : Hid (GoodR (q.r 0) ∧ GoodR (q.r 1)) := ⟨good_rv hok (by omega), good_rv hok (by omega)⟩
  have H0 := Lib.hid hHM
  clear hqr hok hHM hsg hq HQ1 HQ2 HX1 HR1 HND
  have HOB : Hid (Below w.heap.size w u6) := HB1.out.trans (H0.out.mb.bel.mono HB1.out.size)
  refine (helper_walk (me := 0) (z := 1) (r := q.r 0) H0.out.mb.me HG0.out.1).mono ?_
  rintro e u7 ⟨a0, rfl, hME, hb⟩
  have H1 := Lib.hid (H0.out.kp (hs' := upd h0 0 ⟨a0, 0, 1, q.r 0⟩) ⟨hME, H0.out.mb.bel.trans (hb.mono H0.out.mb.bel.size)⟩ (H0.out.mb.kb hb) rfl)
  clear hME hb H0
  go_wp2_with fail
  refine (helper_walk (me := 1) (z := 2) (r := q.r 1) H1.out.mb.me HG0.out.2).mono ?_
  rintro e u8 ⟨a1, rfl, hME, hb⟩
  have H2 := Lib.hid (H1.out.kp (hs' := upd (upd h0 0 ⟨a0, 0, 1, q.r 0⟩) 1 ⟨a1, 1, 2, q.r 1⟩) ⟨hME, H1.out.mb.bel.trans (hb.mono H1.out.mb.bel.size)⟩ (H1.out.mb.kb hb) rfl)
  clear hME hb H1
  go_wp2_with fail
  refine (helper_walk (me := 2) (z := 1) (r := q.r 0) H2.out.mb.me HG0.out.1).mono ?_
  rintro e u9 ⟨a2, rfl, hME, hb⟩
  have H3 := Lib.hid (H2.out.kp (hs' := upd (upd (upd h0 0 ⟨a0, 0, 1, q.r 0⟩) 1 ⟨a1, 1, 2, q.r 1⟩) 2 ⟨a2, 2, 1, q.r 0⟩) ⟨hME, H2.out.mb.bel.trans (hb.mono H2.out.mb.bel.size)⟩ (H2.out.mb.kb hb) rfl)
  clear hME hb H2
  obtain ⟨hs, hhs, hp0, hp1, hp2, hn⟩ : ∃ hs, upd (upd (upd h0 0 ⟨a0, 0, 1, q.r 0⟩) 1 ⟨a1, 1, 2, q.r 1⟩) 2 ⟨a2, 2, 1, q.r 0⟩ = hs ∧ (hs 0).a = a0 ∧ (hs 1).a = a1 ∧ (hs 2).a = a2 ∧ ∀ i, i < 3 → (hs i).n = Rv.n (i % 2) ∧ (hs i).r = q.r (i % 2) :=
    ⟨_, rfl, rfl, rfl, rfl, fun i hi => by
      have : i = 0 ∨ i = 1 ∨ i = 2 := by omega
      rcases this with rfl | rfl | rfl <;> exact ⟨rfl, rfl⟩⟩
  obtain ⟨os, hos, ho⟩ : ∃ os, upd (upd (upd o0 0 (.run (tHelp (q.r 0) 1))) 1 (.run (tHelp (q.r 1) 2))) 2 (.run (tHelp (q.r 0) 1)) = os ∧ ∀ i, i < 3 → os i = .run (tHelp (q.r (i % 2)) (Rv.n (i % 2))) :=
    ⟨_, rfl, fun i hi => by
      have : i = 0 ∨ i = 1 ∨ i = 2 := by omega
      rcases this with rfl | rfl | rfl <;> rfl⟩
  have h3 := H3.out
  rw [hhs, hos] at h3
  have hRM := h3.three
  obtain ⟨g, hg⟩ : ∃ g, u9.heap.size = g := ⟨_, rfl⟩
  obtain ⟨u10, hu10⟩ : ∃ u10, u9.alloc (.cells #[ptr a0, ptr a1, ptr a2] 65) = u10 := ⟨_, rfl⟩
  rw [hp0, hp1, hp2, hg, hu10] at hRM
  have HRM := Lib.hid hRM
  have HHS : Hid (∀ i, i < 3 → ((hs i).n = Rv.n (i % 2) ∧ (hs i).r = q.r (i % 2)) ∧ os i = .run (tHelp (q.r (i % 2)) (Rv.n (i % 2)))) := fun i hi => ⟨hn i hi, ho i hi⟩
  clear hhs hp0 hp1 hp2 hn hos ho h3 hRM H3
  go_upto_if 66 with fail
  (try rw [hu10]); (try rw [hg])
  clear hu10 hg
  go_cut [15] (fun lv wx => ∃ (N : Nat) (T : Option Addr) (tc : Nat) (hs : Nat → Hp) (os : Nat → Ts), lv = .slice T N tc ∧ Hid (3 ≤ N ∧ N ≤ 4 ∧ (z = true → N = 4) ∧ (∀ i, i < N → ((hs i).n = Rv.n (i % 2) ∧ (hs i).r = q.r (i % 2)) ∧ os i = .run (tHelp (q.r (i % 2)) (Rv.n (i % 2)))) ∧ RM v1 (.slice A 5 c) (.slice Ax mx cx) (.slice Ay my cy) (.slice Bx nx ex) (.slice By ny ey) (.slice T N tc) bx bz (odR sa 5) (odR sb 5) ((lstR sa 5).map rfN) ((lstR sb 5).map rfN) d N N 0 hs os (sR q ns0 (fun _ => 1) (fun _ => false)) wx))
  case first =>
    cases z with
    | false =>
      go_wp2
      go_meet
      case rel => exact ⟨3, some ⟨g, 0, none⟩, 3, hs, os, rfl, Nat.le_refl _, by omega, fun e => (by cases e), HHS.out, HRM.out⟩
    | true =>
      go_wp2_with fail
      refine (helper_walk (me := 3) (z := 2) (r := q.r 1) HRM.out.mb.me HG0.out.2).mono ?_
      rintro e u11 ⟨a3, rfl, hME, hb⟩
      obtain ⟨T', tc', Z, happ, hP⟩ := HRM.out.push (x := ⟨a3, 3, 2, q.r 1⟩) ⟨hME, HRM.out.mb.bel.trans (hb.mono HRM.out.mb.bel.size)⟩ (HRM.out.mb.kb hb) (by omega)
      have HP := Lib.hid hP
      have HH4 : Hid (∀ i, i < 4 → (((upd hs 3 ⟨a3, 3, 2, q.r 1⟩) i).n = Rv.n (i % 2) ∧ ((upd hs 3 ⟨a3, 3, 2, q.r 1⟩) i).r = q.r (i % 2)) ∧ (upd os 3 (.run (tHelp (q.r 1) 2))) i = .run (tHelp (q.r (i % 2)) (Rv.n (i % 2)))) := by
        intro i hi
        by_cases e : i = 3
        · subst e; rw [upd_at, upd_at]; exact ⟨⟨rfl, rfl⟩, rfl⟩
        · rw [upd_ne _ _ e, upd_ne _ _ e]; exact HHS.out i (by omega)
      clear hP hME hb HRM HHS
      go_wp2_with (at_builtin; refine Lib.wpList_append_run _ rfl _ _ _ _ rfl _ _ rfl rfl _ _ happ ?_)
      go_meet
      case rel => exact ⟨4, T', tc', _, _, rfl, by omega, Nat.le_refl _, fun _ => rfl, HH4.out, HP.out⟩
  case rest =>
    obtain ⟨N, T, tc, hs, os, rfl, HR⟩ := hcut
    clear HRM HHS HG0
    have HN : Hid (3 ≤ N ∧ N ≤ 4 ∧ (z = true → N = 4)) := ⟨HR.out.1, HR.out.2.1, HR.out.2.2.1⟩
    have HMX : Hid (Calls Try.prog 33 #[.slice T N tc, .slice A0 n0 c0] wc fun e w' => e = .returned (.bool true) ∧ ∃ os f st al, RE v1 (.slice A 5 c) (.slice Ax mx cx) (.slice Ay my cy) (.slice Bx nx ex) (.slice By ny ey) (.slice T N tc) bx bz (odR sa 5) (odR sb 5) ((lstR sa 5).map rfN) ((lstR sb 5).map rfN) d N (0 + n0 + 31 * N) hs os q f st al w' ∧ (∀ c, c < 2 → st c = 2 ∨ st c = 0) ∧ ((∃ i, i ∈ q.l 0 ∧ i ∈ q.l 1) → (st 0 = 2 ↔ ¬ st 1 = 2)) ∧ ((¬ ∃ i, i ∈ q.l 0 ∧ i ∈ q.l 1) → st 0 = 2 ∧ st 1 = 2)) := by
      obtain ⟨k1, k2, k3, k4, k5⟩ := HR.out
      refine (mixed_walk (L := 4) (I := IR q N) k5.mb ⟨fun _ => 0, ns0, fun _ => 1, fun _ => false, rfl, sr_new q HOK.out, fun i hi => ?_⟩ (IR.inl HOK.out fun i hi => (k4 i hi).1) k5.lst (fun b e => .inr ⟨e, k5.hT b e⟩) (HSK.out.below HB1.out) (by have := HN0.out; omega) (by omega)).mono ?_
      · rw [(k4 i hi).2]
        exact rj_new HOK.out (Nat.mod_lt _ (by omega)) _ _ _ _
      · rintro e w' ⟨rfl, hX⟩
        exact ⟨rfl, RE.of k5 hX HOK.out (by omega)⟩
    clear HR HSK
    go_wp2_with fail
    refine HMX.out.mono ?_
    rintro e u12 ⟨rfl, os2, f, st, al, hE, hst, hc1, hc2⟩
    have HE := Lib.hid hE
    clear HMX hE os
    obtain ⟨i0, l0, hl0, hi0⟩ := lstR_head hsa2 ha0
    obtain ⟨j0, r0, hr0, hj0⟩ := lstR_head hsb2 hb0
    rw [hl0, hr0] at HE
    obtain ⟨bN, mx', ccx, pmx, hvx, -⟩ := HE.out.first0
    injection hvx with q1 q2 q3
    subst q1 q2 q3
    obtain ⟨bM, my', ccy, pmy, hvy, -⟩ := HE.out.first1
    injection hvy with q1 q2 q3
    subst q1 q2 q3
    obtain ⟨g', hT, -⟩ := HE.out.m.at_ (by have := HN.out; omega)
    subst hT
    obtain ⟨bA, hA, -⟩ := HE.out.m.node (i := 0) (by omega)
    subst hA
    have HQ0 : Hid ((q.l 0)[0]? = some i0 ∧ (q.l 1)[0]? = some j0) := by rw [HQL.out.1, HQL.out.2, hl0, hr0]; exact ⟨rfl, rfl⟩
    have HCC : Hid ((cm = 0 ∧ st 0 = 2 ∧ st 1 = 2) ∨ (cm ≠ 0 ∧ st 0 = 2 ∧ st 1 = 0) ∨ (cm ≠ 0 ∧ st 0 = 0 ∧ st 1 = 2)) := by
      have h0 := hst 0 (by omega)
      have h1 := hst 1 (by omega)
      rw [HQL.out.1, HQL.out.2] at hc1 hc2
      by_cases hz : cm = 0
      · have := hc2 (HCM.out.1 hz)
        exact .inl ⟨hz, this⟩
      · have hco : ∃ i, i ∈ lstR sa 5 ∧ i ∈ lstR sb 5 := Classical.byContradiction fun e => hz (HCM.out.2 e)
        have := hc1 hco
        right
        rcases h0 with h0 | h0
        · exact .inl ⟨hz, h0, by rcases h1 with h1 | h1 <;> omega⟩
        · exact .inr ⟨hz, h0, by rcases h1 with h1 | h1 <;> omega⟩
    obtain ⟨fS, hf1, hf2, hfs⟩ := reads_two (HE.out.state (c := 0) (by omega)) (HE.out.state (c := 1) (by omega))
    have HFS := Lib.hid hfs
    clear hst hc1 hc2 hfs HCM HQL hl0 hr0
    rcases HCC.out with ⟨hz, s0, s1⟩ | ⟨hz, s0, s1⟩ | ⟨hz, s0, s1⟩
    · clear HCC
      obtain ⟨k1, k2, k3⟩ := HBIT.out
      have k4 : (xy : Int).tmod 32 = 0 := by rw [k2, hz]; rfl
      have k5 : IntKind.u8.wrap (0 : Int) = 0 := by simp only [IntKind.wrap_u8]; omega
      clear k2 k3
      have HBB : Hid (True) := trivial
      rw [s0] at hf1
      rw [s1] at hf2
      have g1 := HE.out.m.mb.cells.2.1
      have HEN : Hid (∀ t, RE v1 (.slice (some ⟨bA, 0, none⟩) 5 c) (.slice (some ⟨bN, 0, none⟩) mx cx) (.slice (some ⟨bM, 0, none⟩) my cy) (.slice Bx nx ex) (.slice By ny ey) (.slice (some ⟨g', 0, none⟩) N tc) bx bz (odR sa 5) (odR sb 5) ((i0 :: l0).map rfN) ((j0 :: r0).map rfN) d N (0 + n0 + 31 * N) hs os2 q f st al (u12.drewN t)) := fun t => HE.out.below (below_drewN (Below.refl _ _) t)
      go_upto_region 13 with fail
      go_cut [16, 17] (fun av bv wx => av = .bool true ∧ bv = .bool true ∧ Hid (RE v1 (.slice (some ⟨bA, 0, none⟩) 5 c) (.slice (some ⟨bN, 0, none⟩) mx cx) (.slice (some ⟨bM, 0, none⟩) my cy) (.slice Bx nx ex) (.slice By ny ey) (.slice (some ⟨g', 0, none⟩) N tc) bx bz (odR sa 5) (odR sb 5) ((i0 :: l0).map rfN) ((j0 :: r0).map rfN) d N (0 + n0 + 31 * N) hs os2 q f st al wx))
      case first =>
        clear HE
        go_quiet (first | (go_at_call 28; exact HFS.out _ (by decide) _))
        go_wp2
        go_meet
        case rel => exact ⟨rfl, rfl, HEN.out _⟩
      case rest =>
        obtain ⟨rfl, rfl, HF⟩ := hcut
        clear HE HEN HFS g1 hf1 hf2 fS HBB
        obtain ⟨hN3, hN4, hNz⟩ := HN.out
        have m0 : (0 : Int) < (N : Int) := by omega
        have m1 : (1 : Int) < (N : Int) := by omega
        have m2 : (2 : Int) < (N : Int) := by omega
        have hc0 := HF.out.m.cell (i := 0) (by omega)
        go_wp2_with fail
        refine (HF.out.yes (i := 0) (by omega)).mono ?_
        rintro e y1 ⟨he0, hE⟩
        have he : e = .returned (.bool true) := by rw [he0]; simp [s0, s1]
        clear he0
        subst he
        have HF1 := Lib.hid hE
        clear hE hc0 HF
        have hc1 := HF1.out.m.cell (i := 1) (by omega)
        go_wp2_with fail
        refine (HF1.out.yes (i := 1) (by omega)).mono ?_
        rintro e y2 ⟨he0, hE⟩
        have he : e = .returned (.bool true) := by rw [he0]; simp [s0, s1]
        clear he0
        subst he
        have HF2 := Lib.hid hE
        clear hE hc1 HF1
        have hc2 := HF2.out.m.cell (i := 2) (by omega)
        go_wp2_with fail
        refine (HF2.out.yes (i := 2) (by omega)).mono ?_
        rintro e y3 ⟨he0, hE⟩
        have he : e = .returned (.bool true) := by rw [he0]; simp [s0, s1]
        clear he0
        subst he
        have HF3 := Lib.hid hE
        clear hE hc2 HF2
        cases z with
        | false =>
          go_wp2_with fail
          clear k1 k4 k5 m0 m1 m2 hNz d1 d2 w1 w2
          go_loopg [150] 5 (fun gk iv wr => ∃ t : Nat, t + gk = 5 ∧ iv = .int .i64 (t : Int) ∧ y3 = wr)
          case atStart => exact ⟨0, by omega, rfl, rfl⟩
          case round =>
            obtain ⟨t, ht, rfl, rfl⟩ := hrel
            by_cases hlt : t < 5
            case neg =>
              have i1 : ¬ ((t : Int) < 5) := by omega
              have HEND : Hid (Below w.heap.size w y3) := HB1.out.trans (HF3.out.m.mb.bel.mono HB1.out.size)
              clear HF3
              go_wp2
              go_ret
              exact ⟨rfl, HEND.out⟩
            have i1 : (t : Int) < 5 := by omega
            have i0' : (0 : Int) ≤ (t : Int) := by omega
            have hkw : IntKind.i64.wrap ((t : Int) + 1) = (t : Int) + 1 := IntWalk.i64_in _ (by omega)
            have n1 : IntKind.i64.wrap (10 * (t : Int)) = 10 * (t : Int) := IntWalk.i64_in _ (by omega)
            have n2 : IntKind.i64.wrap (200 + 10 * (t : Int)) = 200 + 10 * (t : Int) := IntWalk.i64_in _ (by omega)
            obtain ⟨b', hb', hcn⟩ := HF3.out.m.node hlt
            injection hb' with hb'
            injection hb' with hb'
            subst hb'
            have g0 := HF3.out.m.mb.cells.1
            have x0 := HF3.out.m.sx.cells.1
            obtain ⟨b1, m1', c1', p1', e1', fx⟩ := HF3.out.first0
            injection e1' with e2' e3' e4'
            injection e2' with e2'
            injection e2' with e2'
            subst e2' e3' e4'
            have pm0 : (0 : Int) < (mx : Int) := by omega
            have y0 := HF3.out.m.sy.cells.1
            obtain ⟨b2, m2', c2', p2', f1', fy⟩ := HF3.out.first1
            injection f1' with f2' f3' f4'
            injection f2' with f2'
            injection f2' with f2'
            subst f2' f3' f4'
            have pm1 : (0 : Int) < (my : Int) := by omega
            have hw0 := HF3.out.e t hlt
            rw [s0, s1, HQ0.out.1, HQ0.out.2] at hw0
            have HWY := Lib.hid (HF3.out.way hlt)
            clear HF3 HQ0
            by_cases Ei0 : t = i0
            · subst Ei0
              by_cases Ej0 : t = j0
              · subst Ej0
                have hw : (f t).w0 = 99 := by rw [hw0, if_pos ⟨rfl, rfl⟩]
                rw [hw] at HWY
                clear hw0 hw
                generalize rfN t = rt at *
                go_wp2_with fail
                refine HWY.out.mono ?_
                rintro e u ⟨rfl, rfl⟩
                clear HWY
                go_wp2
                go_roundg (gk - 1)
                case measure => omega
                case rel => exact ⟨t + 1, by omega, by go_num, rfl⟩
              · have hbj0 := hj0
                have hw : (f t).w0 = 98 := by rw [hw0, if_neg (fun h => Ej0 (Option.some.inj h.2).symm), if_pos ⟨rfl, rfl⟩]
                rw [hw] at HWY
                clear hw0 hw
                have Rj0 : ¬ rfN t = rfN j0 := fun e => Ej0 (rfN_inj hlt (by omega) e)
                have Rj0b : (rfN t == rfN j0) = false := by simpa using Rj0
                generalize rfN t = rt at *
                generalize rfN j0 = rj0 at *
                go_wp2_with fail
                refine HWY.out.mono ?_
                rintro e u ⟨rfl, rfl⟩
                clear HWY
                go_wp2
                go_roundg (gk - 1)
                case measure => omega
                case rel => exact ⟨t + 1, by omega, by go_num, rfl⟩
            · have hbi0 := hi0
              by_cases Ej0 : t = j0
              · subst Ej0
                have hw : (f t).w0 = 99 := by rw [hw0, if_pos ⟨rfl, rfl⟩]
                rw [hw] at HWY
                clear hw0 hw
                have Ri0 : ¬ rfN t = rfN i0 := fun e => Ei0 (rfN_inj hlt (by omega) e)
                have Ri0b : (rfN t == rfN i0) = false := by simpa using Ri0
                generalize rfN t = rt at *
                generalize rfN i0 = ri0 at *
                go_wp2_with fail
                refine HWY.out.mono ?_
                rintro e u ⟨rfl, rfl⟩
                clear HWY
                go_wp2
                go_roundg (gk - 1)
                case measure => omega
                case rel => exact ⟨t + 1, by omega, by go_num, rfl⟩
              · have hbj0 := hj0
                have hw : (f t).w0 = 200 + 10 * (t : Int) := by rw [hw0, if_neg (fun h => Ej0 (Option.some.inj h.2).symm), if_neg (fun h => Ei0 (Option.some.inj h.2).symm)]
                rw [hw] at HWY
                clear hw0 hw
                have Ri0 : ¬ rfN t = rfN i0 := fun e => Ei0 (rfN_inj hlt (by omega) e)
                have Ri0b : (rfN t == rfN i0) = false := by simpa using Ri0
                have Rj0 : ¬ rfN t = rfN j0 := fun e => Ej0 (rfN_inj hlt (by omega) e)
                have Rj0b : (rfN t == rfN j0) = false := by simpa using Rj0
                generalize rfN t = rt at *
                generalize rfN i0 = ri0 at *
                generalize rfN j0 = rj0 at *
                go_wp2_with fail
                refine HWY.out.mono ?_
                rintro e u ⟨rfl, rfl⟩
                clear HWY
                go_wp2
                go_roundg (gk - 1)
                case measure => omega
                case rel => exact ⟨t + 1, by omega, by go_num, rfl⟩
        | true =>
          obtain rfl : N = 4 := hNz rfl
          have m3 : (3 : Int) < ((4 : Nat) : Int) := by omega
          have hc3 := HF3.out.m.cell (i := 3) (by omega)
          go_wp2_with fail
          refine (HF3.out.yes (i := 3) (by omega)).mono ?_
          rintro e y4 ⟨he0, hE⟩
          have he : e = .returned (.bool true) := by rw [he0]; simp [s0, s1]
          clear he0
          subst he
          have HF4 := Lib.hid hE
          clear hE hc3 HF3
          go_wp2_with fail
          clear k1 k4 k5 m0 m1 m2 hNz d1 d2 w1 w2
          go_loopg [150] 5 (fun gk iv wr => ∃ t : Nat, t + gk = 5 ∧ iv = .int .i64 (t : Int) ∧ y4 = wr)
          case atStart => exact ⟨0, by omega, rfl, rfl⟩
          case round =>
            obtain ⟨t, ht, rfl, rfl⟩ := hrel
            by_cases hlt : t < 5
            case neg =>
              have i1 : ¬ ((t : Int) < 5) := by omega
              have HEND : Hid (Below w.heap.size w y4) := HB1.out.trans (HF4.out.m.mb.bel.mono HB1.out.size)
              clear HF4
              go_wp2
              go_ret
              exact ⟨rfl, HEND.out⟩
            have i1 : (t : Int) < 5 := by omega
            have i0' : (0 : Int) ≤ (t : Int) := by omega
            have hkw : IntKind.i64.wrap ((t : Int) + 1) = (t : Int) + 1 := IntWalk.i64_in _ (by omega)
            have n1 : IntKind.i64.wrap (10 * (t : Int)) = 10 * (t : Int) := IntWalk.i64_in _ (by omega)
            have n2 : IntKind.i64.wrap (200 + 10 * (t : Int)) = 200 + 10 * (t : Int) := IntWalk.i64_in _ (by omega)
            obtain ⟨b', hb', hcn⟩ := HF4.out.m.node hlt
            injection hb' with hb'
            injection hb' with hb'
            subst hb'
            have g0 := HF4.out.m.mb.cells.1
            have x0 := HF4.out.m.sx.cells.1
            obtain ⟨b1, m1', c1', p1', e1', fx⟩ := HF4.out.first0
            injection e1' with e2' e3' e4'
            injection e2' with e2'
            injection e2' with e2'
            subst e2' e3' e4'
            have pm0 : (0 : Int) < (mx : Int) := by omega
            have y0 := HF4.out.m.sy.cells.1
            obtain ⟨b2, m2', c2', p2', f1', fy⟩ := HF4.out.first1
            injection f1' with f2' f3' f4'
            injection f2' with f2'
            injection f2' with f2'
            subst f2' f3' f4'
            have pm1 : (0 : Int) < (my : Int) := by omega
            have hw0 := HF4.out.e t hlt
            rw [s0, s1, HQ0.out.1, HQ0.out.2] at hw0
            have HWY := Lib.hid (HF4.out.way hlt)
            clear HF4 HQ0
            by_cases Ei0 : t = i0
            · subst Ei0
              by_cases Ej0 : t = j0
              · subst Ej0
                have hw : (f t).w0 = 99 := by rw [hw0, if_pos ⟨rfl, rfl⟩]
                rw [hw] at HWY
                clear hw0 hw
                generalize rfN t = rt at *
                go_wp2_with fail
                refine HWY.out.mono ?_
                rintro e u ⟨rfl, rfl⟩
                clear HWY
                go_wp2
                go_roundg (gk - 1)
                case measure => omega
                case rel => exact ⟨t + 1, by omega, by go_num, rfl⟩
              · have hbj0 := hj0
                have hw : (f t).w0 = 98 := by rw [hw0, if_neg (fun h => Ej0 (Option.some.inj h.2).symm), if_pos ⟨rfl, rfl⟩]
                rw [hw] at HWY
                clear hw0 hw
                have Rj0 : ¬ rfN t = rfN j0 := fun e => Ej0 (rfN_inj hlt (by omega) e)
                have Rj0b : (rfN t == rfN j0) = false := by simpa using Rj0
                generalize rfN t = rt at *
                generalize rfN j0 = rj0 at *
                go_wp2_with fail
                refine HWY.out.mono ?_
                rintro e u ⟨rfl, rfl⟩
                clear HWY
                go_wp2
                go_roundg (gk - 1)
                case measure => omega
                case rel => exact ⟨t + 1, by omega, by go_num, rfl⟩
            · have hbi0 := hi0
              by_cases Ej0 : t = j0
              · subst Ej0
                have hw : (f t).w0 = 99 := by rw [hw0, if_pos ⟨rfl, rfl⟩]
                rw [hw] at HWY
                clear hw0 hw
                have Ri0 : ¬ rfN t = rfN i0 := fun e => Ei0 (rfN_inj hlt (by omega) e)
                have Ri0b : (rfN t == rfN i0) = false := by simpa using Ri0
                generalize rfN t = rt at *
                generalize rfN i0 = ri0 at *
                go_wp2_with fail
                refine HWY.out.mono ?_
                rintro e u ⟨rfl, rfl⟩
                clear HWY
                go_wp2
                go_roundg (gk - 1)
                case measure => omega
                case rel => exact ⟨t + 1, by omega, by go_num, rfl⟩
              · have hbj0 := hj0
                have hw : (f t).w0 = 200 + 10 * (t : Int) := by rw [hw0, if_neg (fun h => Ej0 (Option.some.inj h.2).symm), if_neg (fun h => Ei0 (Option.some.inj h.2).symm)]
                rw [hw] at HWY
                clear hw0 hw
                have Ri0 : ¬ rfN t = rfN i0 := fun e => Ei0 (rfN_inj hlt (by omega) e)
                have Ri0b : (rfN t == rfN i0) = false := by simpa using Ri0
                have Rj0 : ¬ rfN t = rfN j0 := fun e => Ej0 (rfN_inj hlt (by omega) e)
                have Rj0b : (rfN t == rfN j0) = false := by simpa using Rj0
                generalize rfN t = rt at *
                generalize rfN i0 = ri0 at *
                generalize rfN j0 = rj0 at *
                go_wp2_with fail
                refine HWY.out.mono ?_
                rintro e u ⟨rfl, rfl⟩
                clear HWY
                go_wp2
                go_roundg (gk - 1)
                case measure => omega
                case rel => exact ⟨t + 1, by omega, by go_num, rfl⟩
    · clear HCC
      obtain ⟨k1, k2, k3⟩ := HBIT.out
      have q1 : ¬ (cm : Int) = 0 := by omega
      have q2 : ((cm : Int) == 0) = false := by simpa using q1
      have q3 : ((cm : Int) != 0) = true := by simpa using q1
      have HBB : Hid (True) := trivial
      rw [s0] at hf1
      rw [s1] at hf2
      have g1 := HE.out.m.mb.cells.2.1
      have HEN : Hid (∀ t, RE v1 (.slice (some ⟨bA, 0, none⟩) 5 c) (.slice (some ⟨bN, 0, none⟩) mx cx) (.slice (some ⟨bM, 0, none⟩) my cy) (.slice Bx nx ex) (.slice By ny ey) (.slice (some ⟨g', 0, none⟩) N tc) bx bz (odR sa 5) (odR sb 5) ((i0 :: l0).map rfN) ((j0 :: r0).map rfN) d N (0 + n0 + 31 * N) hs os2 q f st al (u12.drewN t)) := fun t => HE.out.below (below_drewN (Below.refl _ _) t)
      go_upto_region 13 with fail
      go_cut [16, 17] (fun av bv wx => av = .bool true ∧ bv = .bool false ∧ Hid (RE v1 (.slice (some ⟨bA, 0, none⟩) 5 c) (.slice (some ⟨bN, 0, none⟩) mx cx) (.slice (some ⟨bM, 0, none⟩) my cy) (.slice Bx nx ex) (.slice By ny ey) (.slice (some ⟨g', 0, none⟩) N tc) bx bz (odR sa 5) (odR sb 5) ((i0 :: l0).map rfN) ((j0 :: r0).map rfN) d N (0 + n0 + 31 * N) hs os2 q f st al wx))
      case first =>
        clear HE
        go_quiet (first | (go_at_call 28; exact HFS.out _ (by decide) _))
        go_wp2
        go_meet
        case rel => exact ⟨rfl, rfl, HEN.out _⟩
      case rest =>
        obtain ⟨rfl, rfl, HF⟩ := hcut
        clear HE HEN HFS g1 hf1 hf2 fS HBB
        obtain ⟨hN3, hN4, hNz⟩ := HN.out
        have m0 : (0 : Int) < (N : Int) := by omega
        have m1 : (1 : Int) < (N : Int) := by omega
        have m2 : (2 : Int) < (N : Int) := by omega
        have hc0 := HF.out.m.cell (i := 0) (by omega)
        go_wp2_with fail
        refine (HF.out.yes (i := 0) (by omega)).mono ?_
        rintro e y1 ⟨he0, hE⟩
        have he : e = .returned (.bool true) := by rw [he0]; simp [s0, s1]
        clear he0
        subst he
        have HF1 := Lib.hid hE
        clear hE hc0 HF
        have hc1 := HF1.out.m.cell (i := 1) (by omega)
        go_wp2_with fail
        refine (HF1.out.yes (i := 1) (by omega)).mono ?_
        rintro e y2 ⟨he0, hE⟩
        have he : e = .returned (.bool false) := by rw [he0]; simp [s0, s1]
        clear he0
        subst he
        have HF2 := Lib.hid hE
        clear hE hc1 HF1
        have hc2 := HF2.out.m.cell (i := 2) (by omega)
        go_wp2_with fail
        refine (HF2.out.yes (i := 2) (by omega)).mono ?_
        rintro e y3 ⟨he0, hE⟩
        have he : e = .returned (.bool true) := by rw [he0]; simp [s0, s1]
        clear he0
        subst he
        have HF3 := Lib.hid hE
        clear hE hc2 HF2
        cases z with
        | false =>
          go_wp2_with fail
          clear k1 k2 k3 q1 q2 q3 m0 m1 m2 hNz d1 d2 w1 w2
          go_loopg [150] 5 (fun gk iv wr => ∃ t : Nat, t + gk = 5 ∧ iv = .int .i64 (t : Int) ∧ y3 = wr)
          case atStart => exact ⟨0, by omega, rfl, rfl⟩
          case round =>
            obtain ⟨t, ht, rfl, rfl⟩ := hrel
            by_cases hlt : t < 5
            case neg =>
              have i1 : ¬ ((t : Int) < 5) := by omega
              have HEND : Hid (Below w.heap.size w y3) := HB1.out.trans (HF3.out.m.mb.bel.mono HB1.out.size)
              clear HF3
              go_wp2
              go_ret
              exact ⟨rfl, HEND.out⟩
            have i1 : (t : Int) < 5 := by omega
            have i0' : (0 : Int) ≤ (t : Int) := by omega
            have hkw : IntKind.i64.wrap ((t : Int) + 1) = (t : Int) + 1 := IntWalk.i64_in _ (by omega)
            have n1 : IntKind.i64.wrap (10 * (t : Int)) = 10 * (t : Int) := IntWalk.i64_in _ (by omega)
            have n2 : IntKind.i64.wrap (200 + 10 * (t : Int)) = 200 + 10 * (t : Int) := IntWalk.i64_in _ (by omega)
            obtain ⟨b', hb', hcn⟩ := HF3.out.m.node hlt
            injection hb' with hb'
            injection hb' with hb'
            subst hb'
            have g0 := HF3.out.m.mb.cells.1
            have x0 := HF3.out.m.sx.cells.1
            obtain ⟨b1, m1', c1', p1', e1', fx⟩ := HF3.out.first0
            injection e1' with e2' e3' e4'
            injection e2' with e2'
            injection e2' with e2'
            subst e2' e3' e4'
            have pm0 : (0 : Int) < (mx : Int) := by omega
            have hw0 := HF3.out.e t hlt
            rw [s0, s1, HQ0.out.1, HQ0.out.2] at hw0
            have HWY := Lib.hid (HF3.out.way hlt)
            clear HF3 HQ0
            by_cases Ei0 : t = i0
            · subst Ei0
              have hw : (f t).w0 = 98 := by rw [hw0, if_neg (fun h => absurd h.1 (by decide)), if_pos ⟨rfl, rfl⟩]
              rw [hw] at HWY
              clear hw0 hw
              generalize rfN t = rt at *
              go_wp2_with fail
              refine HWY.out.mono ?_
              rintro e u ⟨rfl, rfl⟩
              clear HWY
              go_wp2
              go_roundg (gk - 1)
              case measure => omega
              case rel => exact ⟨t + 1, by omega, by go_num, rfl⟩
            · have hbi0 := hi0
              have hw : (f t).w0 = 200 + 10 * (t : Int) := by rw [hw0, if_neg (fun h => absurd h.1 (by decide)), if_neg (fun h => Ei0 (Option.some.inj h.2).symm)]
              rw [hw] at HWY
              clear hw0 hw
              have Ri0 : ¬ rfN t = rfN i0 := fun e => Ei0 (rfN_inj hlt (by omega) e)
              have Ri0b : (rfN t == rfN i0) = false := by simpa using Ri0
              generalize rfN t = rt at *
              generalize rfN i0 = ri0 at *
              go_wp2_with fail
              refine HWY.out.mono ?_
              rintro e u ⟨rfl, rfl⟩
              clear HWY
              go_wp2
              go_roundg (gk - 1)
              case measure => omega
              case rel => exact ⟨t + 1, by omega, by go_num, rfl⟩
        | true =>
          obtain rfl : N = 4 := hNz rfl
          have m3 : (3 : Int) < ((4 : Nat) : Int) := by omega
          have hc3 := HF3.out.m.cell (i := 3) (by omega)
          go_wp2_with fail
          refine (HF3.out.yes (i := 3) (by omega)).mono ?_
          rintro e y4 ⟨he0, hE⟩
          have he : e = .returned (.bool false) := by rw [he0]; simp [s0, s1]
          clear he0
          subst he
          have HF4 := Lib.hid hE
          clear hE hc3 HF3
          go_wp2_with fail
          clear k1 k2 k3 q1 q2 q3 m0 m1 m2 hNz d1 d2 w1 w2
          go_loopg [150] 5 (fun gk iv wr => ∃ t : Nat, t + gk = 5 ∧ iv = .int .i64 (t : Int) ∧ y4 = wr)
          case atStart => exact ⟨0, by omega, rfl, rfl⟩
          case round =>
            obtain ⟨t, ht, rfl, rfl⟩ := hrel
            by_cases hlt : t < 5
            case neg =>
              have i1 : ¬ ((t : Int) < 5) := by omega
              have HEND : Hid (Below w.heap.size w y4) := HB1.out.trans (HF4.out.m.mb.bel.mono HB1.out.size)
              clear HF4
              go_wp2
              go_ret
              exact ⟨rfl, HEND.out⟩
            have i1 : (t : Int) < 5 := by omega
            have i0' : (0 : Int) ≤ (t : Int) := by omega
            have hkw : IntKind.i64.wrap ((t : Int) + 1) = (t : Int) + 1 := IntWalk.i64_in _ (by omega)
            have n1 : IntKind.i64.wrap (10 * (t : Int)) = 10 * (t : Int) := IntWalk.i64_in _ (by omega)
            have n2 : IntKind.i64.wrap (200 + 10 * (t : Int)) = 200 + 10 * (t : Int) := IntWalk.i64_in _ (by omega)
            obtain ⟨b', hb', hcn⟩ := HF4.out.m.node hlt
            injection hb' with hb'
            injection hb' with hb'
            subst hb'
            have g0 := HF4.out.m.mb.cells.1
            have x0 := HF4.out.m.sx.cells.1
            obtain ⟨b1, m1', c1', p1', e1', fx⟩ := HF4.out.first0
            injection e1' with e2' e3' e4'
            injection e2' with e2'
            injection e2' with e2'
            subst e2' e3' e4'
            have pm0 : (0 : Int) < (mx : Int) := by omega
            have hw0 := HF4.out.e t hlt
            rw [s0, s1, HQ0.out.1, HQ0.out.2] at hw0
            have HWY := Lib.hid (HF4.out.way hlt)
            clear HF4 HQ0
            by_cases Ei0 : t = i0
            · subst Ei0
              have hw : (f t).w0 = 98 := by rw [hw0, if_neg (fun h => absurd h.1 (by decide)), if_pos ⟨rfl, rfl⟩]
              rw [hw] at HWY
              clear hw0 hw
              generalize rfN t = rt at *
              go_wp2_with fail
              refine HWY.out.mono ?_
              rintro e u ⟨rfl, rfl⟩
              clear HWY
              go_wp2
              go_roundg (gk - 1)
              case measure => omega
              case rel => exact ⟨t + 1, by omega, by go_num, rfl⟩
            · have hbi0 := hi0
              have hw : (f t).w0 = 200 + 10 * (t : Int) := by rw [hw0, if_neg (fun h => absurd h.1 (by decide)), if_neg (fun h => Ei0 (Option.some.inj h.2).symm)]
              rw [hw] at HWY
              clear hw0 hw
              have Ri0 : ¬ rfN t = rfN i0 := fun e => Ei0 (rfN_inj hlt (by omega) e)
              have Ri0b : (rfN t == rfN i0) = false := by simpa using Ri0
              generalize rfN t = rt at *
              generalize rfN i0 = ri0 at *
              go_wp2_with fail
              refine HWY.out.mono ?_
              rintro e u ⟨rfl, rfl⟩
              clear HWY
              go_wp2
              go_roundg (gk - 1)
              case measure => omega
              case rel => exact ⟨t + 1, by omega, by go_num, rfl⟩
    · clear HCC
      obtain ⟨k1, k2, k3⟩ := HBIT.out
      have q1 : ¬ (cm : Int) = 0 := by omega
      have q2 : ((cm : Int) == 0) = false := by simpa using q1
      have q3 : ((cm : Int) != 0) = true := by simpa using q1
      have HBB : Hid (True) := trivial
      rw [s0] at hf1
      rw [s1] at hf2
      have g1 := HE.out.m.mb.cells.2.1
      have HEN : Hid (∀ t, RE v1 (.slice (some ⟨bA, 0, none⟩) 5 c) (.slice (some ⟨bN, 0, none⟩) mx cx) (.slice (some ⟨bM, 0, none⟩) my cy) (.slice Bx nx ex) (.slice By ny ey) (.slice (some ⟨g', 0, none⟩) N tc) bx bz (odR sa 5) (odR sb 5) ((i0 :: l0).map rfN) ((j0 :: r0).map rfN) d N (0 + n0 + 31 * N) hs os2 q f st al (u12.drewN t)) := fun t => HE.out.below (below_drewN (Below.refl _ _) t)
      go_upto_region 13 with fail
      go_cut [16, 17] (fun av bv wx => av = .bool false ∧ bv = .bool true ∧ Hid (RE v1 (.slice (some ⟨bA, 0, none⟩) 5 c) (.slice (some ⟨bN, 0, none⟩) mx cx) (.slice (some ⟨bM, 0, none⟩) my cy) (.slice Bx nx ex) (.slice By ny ey) (.slice (some ⟨g', 0, none⟩) N tc) bx bz (odR sa 5) (odR sb 5) ((i0 :: l0).map rfN) ((j0 :: r0).map rfN) d N (0 + n0 + 31 * N) hs os2 q f st al wx))
      case first =>
        clear HE
        go_quiet (first | (go_at_call 28; exact HFS.out _ (by decide) _))
        go_wp2
        go_meet
        case rel => exact ⟨rfl, rfl, HEN.out _⟩
      case rest =>
        obtain ⟨rfl, rfl, HF⟩ := hcut
        clear HE HEN HFS g1 hf1 hf2 fS HBB
        obtain ⟨hN3, hN4, hNz⟩ := HN.out
        have m0 : (0 : Int) < (N : Int) := by omega
        have m1 : (1 : Int) < (N : Int) := by omega
        have m2 : (2 : Int) < (N : Int) := by omega
        have hc0 := HF.out.m.cell (i := 0) (by omega)
        go_wp2_with fail
        refine (HF.out.yes (i := 0) (by omega)).mono ?_
        rintro e y1 ⟨he0, hE⟩
        have he : e = .returned (.bool false) := by rw [he0]; simp [s0, s1]
        clear he0
        subst he
        have HF1 := Lib.hid hE
        clear hE hc0 HF
        have hc1 := HF1.out.m.cell (i := 1) (by omega)
        go_wp2_with fail
        refine (HF1.out.yes (i := 1) (by omega)).mono ?_
        rintro e y2 ⟨he0, hE⟩
        have he : e = .returned (.bool true) := by rw [he0]; simp [s0, s1]
        clear he0
        subst he
        have HF2 := Lib.hid hE
        clear hE hc1 HF1
        have hc2 := HF2.out.m.cell (i := 2) (by omega)
        go_wp2_with fail
        refine (HF2.out.yes (i := 2) (by omega)).mono ?_
        rintro e y3 ⟨he0, hE⟩
        have he : e = .returned (.bool false) := by rw [he0]; simp [s0, s1]
        clear he0
        subst he
        have HF3 := Lib.hid hE
        clear hE hc2 HF2
        cases z with
        | false =>
          go_wp2_with fail
          clear k1 k2 k3 q1 q2 q3 m0 m1 m2 hNz d1 d2 w1 w2
          go_loopg [150] 5 (fun gk iv wr => ∃ t : Nat, t + gk = 5 ∧ iv = .int .i64 (t : Int) ∧ y3 = wr)
          case atStart => exact ⟨0, by omega, rfl, rfl⟩
          case round =>
            obtain ⟨t, ht, rfl, rfl⟩ := hrel
            by_cases hlt : t < 5
            case neg =>
              have i1 : ¬ ((t : Int) < 5) := by omega
              have HEND : Hid (Below w.heap.size w y3) := HB1.out.trans (HF3.out.m.mb.bel.mono HB1.out.size)
              clear HF3
              go_wp2
              go_ret
              exact ⟨rfl, HEND.out⟩
            have i1 : (t : Int) < 5 := by omega
            have i0' : (0 : Int) ≤ (t : Int) := by omega
            have hkw : IntKind.i64.wrap ((t : Int) + 1) = (t : Int) + 1 := IntWalk.i64_in _ (by omega)
            have n1 : IntKind.i64.wrap (10 * (t : Int)) = 10 * (t : Int) := IntWalk.i64_in _ (by omega)
            have n2 : IntKind.i64.wrap (200 + 10 * (t : Int)) = 200 + 10 * (t : Int) := IntWalk.i64_in _ (by omega)
            obtain ⟨b', hb', hcn⟩ := HF3.out.m.node hlt
            injection hb' with hb'
            injection hb' with hb'
            subst hb'
            have g0 := HF3.out.m.mb.cells.1
            have y0 := HF3.out.m.sy.cells.1
            obtain ⟨b2, m2', c2', p2', f1', fy⟩ := HF3.out.first1
            injection f1' with f2' f3' f4'
            injection f2' with f2'
            injection f2' with f2'
            subst f2' f3' f4'
            have pm1 : (0 : Int) < (my : Int) := by omega
            have hw0 := HF3.out.e t hlt
            rw [s0, s1, HQ0.out.1, HQ0.out.2] at hw0
            have HWY := Lib.hid (HF3.out.way hlt)
            clear HF3 HQ0
            by_cases Ej0 : t = j0
            · subst Ej0
              have hw : (f t).w0 = 99 := by rw [hw0, if_pos ⟨rfl, rfl⟩]
              rw [hw] at HWY
              clear hw0 hw
              generalize rfN t = rt at *
              go_wp2_with fail
              refine HWY.out.mono ?_
              rintro e u ⟨rfl, rfl⟩
              clear HWY
              go_wp2
              go_roundg (gk - 1)
              case measure => omega
              case rel => exact ⟨t + 1, by omega, by go_num, rfl⟩
            · have hbj0 := hj0
              have hw : (f t).w0 = 200 + 10 * (t : Int) := by rw [hw0, if_neg (fun h => Ej0 (Option.some.inj h.2).symm), if_neg (fun h => absurd h.1 (by decide))]
              rw [hw] at HWY
              clear hw0 hw
              have Rj0 : ¬ rfN t = rfN j0 := fun e => Ej0 (rfN_inj hlt (by omega) e)
              have Rj0b : (rfN t == rfN j0) = false := by simpa using Rj0
              generalize rfN t = rt at *
              generalize rfN j0 = rj0 at *
              go_wp2_with fail
              refine HWY.out.mono ?_
              rintro e u ⟨rfl, rfl⟩
              clear HWY
              go_wp2
              go_roundg (gk - 1)
              case measure => omega
              case rel => exact ⟨t + 1, by omega, by go_num, rfl⟩
        | true =>
          obtain rfl : N = 4 := hNz rfl
          have m3 : (3 : Int) < ((4 : Nat) : Int) := by omega
          have hc3 := HF3.out.m.cell (i := 3) (by omega)
          go_wp2_with fail
          refine (HF3.out.yes (i := 3) (by omega)).mono ?_
          rintro e y4 ⟨he0, hE⟩
          have he : e = .returned (.bool true) := by rw [he0]; simp [s0, s1]
          clear he0
          subst he
          have HF4 := Lib.hid hE
          clear hE hc3 HF3
          go_wp2_with fail
          clear k1 k2 k3 q1 q2 q3 m0 m1 m2 hNz d1 d2 w1 w2
          go_loopg [150] 5 (fun gk iv wr => ∃ t : Nat, t + gk = 5 ∧ iv = .int .i64 (t : Int) ∧ y4 = wr)
          case atStart => exact ⟨0, by omega, rfl, rfl⟩
          case round =>
            obtain ⟨t, ht, rfl, rfl⟩ := hrel
            by_cases hlt : t < 5
            case neg =>
              have i1 : ¬ ((t : Int) < 5) := by omega
              have HEND : Hid (Below w.heap.size w y4) := HB1.out.trans (HF4.out.m.mb.bel.mono HB1.out.size)
              clear HF4
              go_wp2
              go_ret
              exact ⟨rfl, HEND.out⟩
            have i1 : (t : Int) < 5 := by omega
            have i0' : (0 : Int) ≤ (t : Int) := by omega
            have hkw : IntKind.i64.wrap ((t : Int) + 1) = (t : Int) + 1 := IntWalk.i64_in _ (by omega)
            have n1 : IntKind.i64.wrap (10 * (t : Int)) = 10 * (t : Int) := IntWalk.i64_in _ (by omega)
            have n2 : IntKind.i64.wrap (200 + 10 * (t : Int)) = 200 + 10 * (t : Int) := IntWalk.i64_in _ (by omega)
            obtain ⟨b', hb', hcn⟩ := HF4.out.m.node hlt
            injection hb' with hb'
            injection hb' with hb'
            subst hb'
            have g0 := HF4.out.m.mb.cells.1
            have y0 := HF4.out.m.sy.cells.1
            obtain ⟨b2, m2', c2', p2', f1', fy⟩ := HF4.out.first1
            injection f1' with f2' f3' f4'
            injection f2' with f2'
            injection f2' with f2'
            subst f2' f3' f4'
            have pm1 : (0 : Int) < (my : Int) := by omega
            have hw0 := HF4.out.e t hlt
            rw [s0, s1, HQ0.out.1, HQ0.out.2] at hw0
            have HWY := Lib.hid (HF4.out.way hlt)
            clear HF4 HQ0
            by_cases Ej0 : t = j0
            · subst Ej0
              have hw : (f t).w0 = 99 := by rw [hw0, if_pos ⟨rfl, rfl⟩]
              rw [hw] at HWY
              clear hw0 hw
              generalize rfN t = rt at *
              go_wp2_with fail
              refine HWY.out.mono ?_
              rintro e u ⟨rfl, rfl⟩
              clear HWY
              go_wp2
              go_roundg (gk - 1)
              case measure => omega
              case rel => exact ⟨t + 1, by omega, by go_num, rfl⟩
            · have hbj0 := hj0
              have hw : (f t).w0 = 200 + 10 * (t : Int) := by rw [hw0, if_neg (fun h => Ej0 (Option.some.inj h.2).symm), if_neg (fun h => absurd h.1 (by decide))]
              rw [hw] at HWY
              clear hw0 hw
              have Rj0 : ¬ rfN t = rfN j0 := fun e => Ej0 (rfN_inj hlt (by omega) e)
              have Rj0b : (rfN t == rfN j0) = false := by simpa using Rj0
              generalize rfN t = rt at *
              generalize rfN j0 = rj0 at *
              go_wp2_with fail
              refine HWY.out.mono ?_
              rintro e u ⟨rfl, rfl⟩
              clear HWY
              go_wp2
              go_roundg (gk - 1)
              case measure => omega
              case rel => exact ⟨t + 1, by omega, by go_num, rfl⟩
end Go.Proofs.Ytfloblofdkemlaa
