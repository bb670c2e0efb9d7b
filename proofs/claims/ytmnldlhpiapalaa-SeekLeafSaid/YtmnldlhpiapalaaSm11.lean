/-
 (Plan).Shape.
-/
import Derived.Test.YtmnldlhpiapalaaPl
import Derived.Deep.Cut
namespace Go.Proofs.Ytmnldlhpiapalaa
open Go.ChangeShapes Go.WideShapes Go.ChangeAt Go.RowKit
set_option linter.unusedVariables false
set_option linter.unusedSimpArgs false
set_option maxRecDepth 20000

/-- The first loop: leaves side by side, what is left of the list. -/
def L1 (L : Nat) (V : World) (v5 v6 : Value) (A : Option Addr) (c : Nat) (row : List Sh) (fs : List Int) (ls : List (Int × Int)) (w : World) : Prop := ∃ Y, RW L Y row fs v5 v6 w ∧ LeafS row fs ls.length ∧ LeafO row fs ls ∧ Asc ls ∧ (∀ x ∈ fs, ∀ q ∈ ls, x < q.1) ∧ Lp w A ls.length c ls ∧ (∀ ad, A = some ad → ad.block < L) ∧ Below V.heap.size V w ∧ V.heap.size ≤ L ∧ L ≤ w.heap.size
/-- A level, whole. -/
def L2 (L : Nat) (V : World) (v5 v6 : Value) (row : List Sh) (fs : List Int) (w : World) : Prop := ∃ Y, RW L Y row fs v5 v6 w ∧ RowS row fs ∧ OrdR row fs ∧ Below V.heap.size V w ∧ V.heap.size ≤ L ∧ L ≤ w.heap.size
/-- A level, and the one above as it comes. -/
def L3 (L : Nat) (V : World) (v5 v6 : Value) (row : List Sh) (fs : List Int) (i : Nat) (up : List Sh) (keys : List Int) (v12 v13 : Value) (w : World) : Prop := ∃ Y, UW L Y row fs v5 v6 up keys v12 v13 w ∧ RowS row fs ∧ UpS row fs i up keys ∧ OrdR row fs ∧ UpO row fs i up keys ∧ Below V.heap.size V w ∧ V.heap.size ≤ L ∧ L ≤ w.heap.size
theorem kids_split' {l : List (Int × Int)} {q : Int × Int} (h : l[0]? = some q) : l = q :: l.drop 1 := by
 cases l with
 | nil => cases h
 | cons a l => injection h with h; subst h; rfl
set_option maxHeartbeats 4000000 in
theorem shape_walk : ShapeC := by
 intro w v n0 n1 n2 n3 n4 b hp hl hb
 obtain ⟨A0, c0, ks, A1, c1, l1, A2, c2, l2, A3, c3, l3, A4, c4, l4, rfl, s0, s1, s2, s3, s4⟩ := id hp
 obtain ⟨X, px, hX, hpx, bX, x0, x1, x2, x3, x4⟩ := plan_box w (.slice A0 n0 c0) (.slice A1 n1 c1) (.slice A2 n2 c2) (.slice A3 n3 c3) (.slice A4 n4 c4)
 obtain ⟨V, u, hV, hu, bV, eV, sV⟩ := Shc.new X (.bool false) (.bool false) (.slice none 0 0) (.slice none 0 0) (.slice none 0 0)
 have bWV := bX.trans (bV.mono bX.size)
 obtain ⟨S, hS⟩ : ∃ S, S = w.heap.size := ⟨_, rfl⟩
 have hpost : ∀ e w', (∃ s v, e = Ending.returned v ∧ ShY (fun b => S ≤ b ∧ b < w'.heap.size) w' s v ∧ GoodS s ∧ Below S w w') → ShpW w e w' := by
  subst hS; exact fun _ _ h => h
 refine Calls.mono ?_ hpost
 have HS := Lib.hid hS
 have HBV := Lib.hid bWV
 have HEV := Lib.hid eV
 have HPB : Hid (∀ w', Below V.heap.size V w' → w'.cell? ⟨px, 0, none⟩ = some (.slice A0 n0 c0) ∧ w'.cell? ⟨px, 1, none⟩ = some (.slice A1 n1 c1) ∧ w'.cell? ⟨px, 2, none⟩ = some (.slice A2 n2 c2) ∧ w'.cell? ⟨px, 3, none⟩ = some (.slice A3 n3 c3) ∧ w'.cell? ⟨px, 4, none⟩ = some (.slice A4 n4 c4)) := fun w' h => by
  have h0 := bV.trans (h.mono bV.size)
  exact ⟨below_read h0 x0, below_read h0 x1, below_read h0 x2, below_read h0 x3, below_read h0 x4⟩
 have HK0 := Lib.hid (s0.below bWV)
 have HK1 := Lib.hid (s1.below bWV)
 have HK2 := Lib.hid (s2.below bWV)
 have HK3 := Lib.hid (s3.below bWV)
 have HK4 := Lib.hid (s4.below bWV)
 have HLL := Lib.hid hl
 have HB := Lib.hid hb
 have HUX : Hid (w.heap.size ≤ u ∧ u < V.heap.size) := ⟨by have := bX.size; omega, by omega⟩
 obtain ⟨y0, y1, y2, y3, y4⟩ := HPB.out V (Below.refl _ V)
 clear hp hl hb s0 s1 s2 s3 s4 x0 x1 x2 x3 x4 bX bV eV sV bWV hpost hS
 go_enter Try.func38, Try.ntmps38
 go_wp2_with fail
 (try rw [hX]); (try rw [hpx]); (try rw [hV]); (try rw [hu])
 clear hX hpx hV hu
 refine (rising_walk A0 n0 c0 ks V HK0.out (by have := HLL.out; omega)).mono ?_
 rintro e v1 ⟨lv, rfl, hown⟩
 obtain ⟨A7, c7, rfl, hlp⟩ := Prs.form (base := V.heap.size) hown.1
 have hls : (risingL ks).length ≤ 50 := by have h1 := risingTo_length ks ks.length; have h2 := HK0.out.len; have h3 := HLL.out; unfold risingL; omega
 have hB1 := hown.below
 have H1 : Hid (L1 v1.heap.size V (.slice none 0 0) (.slice none 0 0) A7 c7 [] [] (risingL ks) v1) := ⟨fun _ => False, RW.nil (fun b f => f.elim), LeafS.nil hls, LeafO.nil hls, asc_risingTo _ _, (fun x f => by cases f), hlp, (fun ad f => by
  subst f
  exact (hown.block_lt ad.block rfl).2), hB1, hB1.size, Nat.le_refl _⟩
 obtain ⟨ls, hlsE⟩ : ∃ ls, risingL ks = ls := ⟨_, rfl⟩
 rw [hlsE] at H1 hls
 rw [hlsE]
 clear hlsE hown hlp hB1 y0 y1 y2 y3 y4
 obtain ⟨n7, hn7⟩ : ∃ n, ls.length = n := ⟨_, rfl⟩
 rw [hn7]
 go_wp2_with fail
 go_loopg [5, 6, 7, 8] n7 (fun gk v5 v6 v7 v8 wr => ∃ (row : List Sh) (fs : List Int) (ls : List (Int × Int)) (A : Option Addr) (c i : Nat), v7 = .slice A gk c ∧ v8 = .int .i64 (i : Int) ∧ gk = ls.length ∧ i + gk ≤ n7 ∧ Hid (L1 v1.heap.size V v5 v6 A c row fs ls wr))
 case atStart =>
  exact ⟨[], [], ls, A7, c7, 0, by first | rfl | rw [hn7], rfl, hn7.symm, by omega, H1⟩
 case round =>
  obtain ⟨row, fs, ls', A, c, i, rfl, rfl, hgk, hi, HH⟩ := hrel
  by_cases hg0 : gk = 0
  ·obtain ⟨Y, hRW, hLS, hLO, hasc, hlt, hlp, hblk, hbV, hVL, hLw⟩ := HH.out
   have i1 : ¬ (0 : Int) < (gk : Int) := by omega
   obtain ⟨A5, c5, rfl, h5⟩ := hRW.rows.shape
   obtain ⟨A6, c6, rfl, h6⟩ := hRW.firsts.form
   have hRS := hLS.row
   have hu9 := HEV.out.below hbV
   obtain ⟨z0, z1, z2, z3, z4⟩ := hu9.cells
   obtain ⟨r0, r1, r2, r3, r4⟩ := hu9.frees
   have HU9 := Lib.hid hu9
   have HL2 : Hid (L2 v1.heap.size V (.slice A5 row.length c5) (.slice A6 fs.length c6) row fs wr) := ⟨Y, hRW, hRS, hLO.row, hbV, hVL, hLw⟩
   have HWV := Lib.hid hbV
   obtain ⟨rl, hrl⟩ : ∃ n, row.length = n := ⟨_, rfl⟩
   have HRL := Lib.hid hrl
   have hr50 := hRS.most
   rw [hrl] at HL2 hr50
   rw [hrl]
   clear hRW hLS hLO hasc hlt hlp hblk hbV hVL hLw hRS hu9 h5 h6 hrl
   by_cases h0 : rl = 0
   ·have h0i : ((rl : Int) == 0) = true := by rw [h0]; rfl
    go_wp2_with fail
    ((try simp only [Exit.inBlock, Exit.then]); refine bodyPost_ret (results_shc rfl rfl HU9.out.put) rfl ?_)
    have hS := HS.out
    have ho := only_put5 wr u (.bool true) (.bool false) (.slice none 0 0) (.slice none 0 0) (.slice none 0 0)
    have hbw := HBV.out.trans (HWV.out.mono HBV.out.size)
    rw [hS]
    exact ⟨.mk true false [] [] [], _, rfl, ⟨none, 0, 0, none, 0, 0, none, 0, 0, rfl, Lp.nil _, (fun _ f => by cases f), Sl.nil _, (fun _ f => by cases f), rfl, Nat.le_refl _, .inl rfl⟩, ⟨⟨.inl ⟨rfl, rfl, rfl⟩, List.Pairwise.nil, trivial⟩, ⟨by simp, by simp, by simp, trivial⟩, by simp [Sh.many, Sh.manyL], by simp [Sh.deep, Sh.deepL], ⟨fun f => (by cases f), List.Pairwise.nil, sepAt_nil _ _, trivial⟩, by simp [Sh.all, Sh.allL]⟩, hbw.trans (ho.below (fun b f => by rw [f]; exact HUX.out.1) hbw.size)⟩
   ·have h0i : ((rl : Int) == 0) = false := by simpa using h0
    have h0j : ¬ ((rl : Int) = 0) := by omega
    go_wp2_with fail
    go_loopg [5, 6, 11] rl (fun gk v5 v6 v11 wx => ∃ (row : List Sh) (fs : List Int) (A5 A6 : Option Addr) (c5 c6 m6 kk : Nat), v5 = .slice A5 gk c5 ∧ v6 = .slice A6 m6 c6 ∧ v11 = .int .i64 (kk : Int) ∧ gk = row.length ∧ 1 ≤ gk ∧ gk ≤ 50 ∧ kk + 50 * gk ≤ 2500 ∧ Hid (L2 v1.heap.size V (.slice A5 gk c5) (.slice A6 m6 c6) row fs wx))
    case atStart => exact ⟨row, fs, A5, A6, c5, c6, _, 0, rfl, rfl, rfl, HRL.out.symm, by omega, by omega, by omega, HL2⟩
    case round =>
     obtain ⟨row2, fs2, A5, A6, c5, c6, m6, kk, rfl, rfl, rfl, hgk2, hgk1, hgk50, hkk, HM⟩ := hrel
     by_cases hg1 : gk = 1
     ·have i2 : ¬ (1 : Int) < (gk : Int) := by omega
      obtain ⟨Y, hRW, hRS, hOR, hbV, hVL, hLw⟩ := HM.out
      obtain ⟨s9, rfl⟩ : ∃ s9, row2 = [s9] := List.length_eq_one_iff.1 (by omega)
      have hGS := GoodS.row hRS hOR
      obtain ⟨-, -, k3⟩ := hRW.rows.kids
      obtain ⟨g9, rfl, hc9⟩ : ∃ g, A5 = some ⟨g, 0, none⟩ ∧ ShYC Y wr [s9] g 0 := by
       rcases k3 with f | f
       ·cases f
       ·exact f
      obtain ⟨⟨lf, tg, A, n, k, B, m, e, C, p, q, e0, e1, e2, e3, e4, hs9⟩, -⟩ := hc9
      have hu9 := HEV.out.below hbV
      obtain ⟨z0, z1, z2, z3, z4⟩ := hu9.cells
      obtain ⟨r0, r1, r2, r3, r4⟩ := hu9.frees
      have HU2 := Lib.hid hu9
      have HWV2 := Lib.hid hbV
      have HRN := Lib.hid hRW.rng
      have HVL := Lib.hid hVL
      have HS9 := Lib.hid hs9
      have HGS := Lib.hid hGS
      have i3 : (0 : Int) < (gk : Int) := by omega
      clear hRW hRS hOR hbV hVL hLw hGS k3 hu9 hs9
      go_wp2_with fail
      ((try simp only [Exit.inBlock, Exit.then]); refine bodyPost_ret (results_shc rfl rfl HU2.out.put) rfl ?_)
      have hS := HS.out
      have ho := only_put5 wr u (.bool lf) (.bool tg) (.slice A n k) (.slice B m e) (.slice C p q)
      have hbw := HBV.out.trans (HWV2.out.mono HBV.out.size)
      rw [hS]
      have hux := HUX.out
      have hne : ∀ b, Y b → b ≠ u := fun b f => by have := (HRN.out b f).1; have := HVL.out; omega
      exact ⟨s9, _, rfl, ShY.keep (fun b f => put5_block wr u _ _ _ _ _ (hne b f)) (fun b f => ⟨by have := (HRN.out b f).1; have := HVL.out; omega, Nat.lt_of_lt_of_le (HRN.out b f).2 ho.size⟩) _ _ HS9.out, HGS.out, hbw.trans (ho.below (fun b f => by rw [f]; exact HUX.out.1) hbw.size)⟩
     ·have i2 : (1 : Int) < (gk : Int) := by omega
      have H3 : Hid (L3 v1.heap.size V (.slice A5 gk c5) (.slice A6 m6 c6) row2 fs2 0 [] [] (.slice none 0 0) (.slice none 0 0) wr) := by
       obtain ⟨Y, hRW, hRS, hOR, hbV, hVL, hLw⟩ := HM.out
       exact ⟨Y, hRW.two, hRS, UpS.nil _ _, hOR, UpO.nil _ _, hbV, hVL, hLw⟩
      clear HM
      generalize gk = rr at *
      have HRR := Lib.hid hgk2
      clear hgk2
      go_wp2_with fail
      go_loopg [11, 12, 13, 14] rr (fun g2 v11 v12 v13 v14 wy => ∃ (i : Nat) (up : List Sh) (keys : List Int) (k2 : Nat), v14 = .int .i64 (i : Int) ∧ v11 = .int .i64 (k2 : Int) ∧ i + g2 = rr ∧ k2 + g2 ≤ kk + rr ∧ Hid (L3 v1.heap.size V (.slice A5 rr c5) (.slice A6 m6 c6) row2 fs2 i up keys v12 v13 wy))
      case atStart => exact ⟨0, [], [], kk, rfl, rfl, by omega, by omega, H3⟩
      case round =>
       obtain ⟨i2', up, keys, k2, rfl, rfl, hi2, hk2, H4⟩ := hrel
       by_cases hg2 : gk = 0
       ·have i3 : ¬ (i2' : Int) < (rr : Int) := by omega
        obtain ⟨Y, hUW, hRS, hUP, hOR, hUO, hbV, hVL, hLw⟩ := H4.out
        obtain ⟨A7', c7', rfl, -⟩ := hUW.b.rows.shape
        obtain ⟨A8', c8', rfl, -⟩ := hUW.b.firsts.form
        have hie : i2' = row2.length := by have := HRR.out; omega
        rw [hie] at hUP hUO
        have hOD := hUO.done hOR
        obtain ⟨hR, hlt1, hlt2⟩ := hUP.done hRS (by have := HRR.out; omega)
        have hlt3 : up.length < rr := by have := HRR.out; omega
        have H5 : Hid (L2 v1.heap.size V (.slice A7' up.length c7') (.slice A8' keys.length c8') up keys wr) := ⟨Y, hUW.b, hR, hOD, hbV, hVL, hLw⟩
        have hu5 := hR.most
        clear hUW hRS hUP hOR hUO hOD hbV hVL hLw hR
        go_wp2_with fail
        go_roundg up.length
        case measure => omega
        case rel => exact ⟨up, keys, A7', A8', c7', c8', _, k2, rfl, rfl, rfl, rfl, hlt2, hu5, by omega, H5⟩
       ·have i3 : (i2' : Int) < (rr : Int) := by omega
        obtain ⟨Y, hUW, hRS, hUP, hOR, hUO, hbV, hVL, hLw⟩ := H4.out
        obtain ⟨k1, k2', k3⟩ := hUW.a.rows.kids
        obtain ⟨g5, rfl, hKC⟩ : ∃ g, A5 = some ⟨g, 0, none⟩ ∧ ShYC Y wr row2 g 0 := by
         rcases k3 with f | f
         ·have hgk2 := HRR.out; rw [f] at hgk2; simp at hgk2; omega
         ·exact f
        have hAT1 := at_walk (c := c3) (HK3.out.below hbV) (i := k2) (by have := HLL.out; omega) (by omega)
        have hAT2 := at_walk (c := c4) (HK4.out.below hbV) (i := k2) (by have := HLL.out; omega) (by omega)
        have HAT2 := Lib.hid hAT2
        have hb3 := HB.out
        have HBW := Lib.hid hbV
        have HUW := Lib.hid hUW
        have HRS := Lib.hid hRS
        have HUP := Lib.hid hUP
        have HOR := Lib.hid hOR
        have HUO := Lib.hid hUO
        have HVL := Lib.hid hVL
        have HLw := Lib.hid hLw
        have HKC := Lib.hid hKC
        have HC5 := Lib.hid k2'
        obtain ⟨y0, y1, y2, y3, y4⟩ := HPB.out wr hbV
        have HY3 := Lib.hid y3
        clear hUW hRS hUP hOR hUO hbV hVL hLw hKC k1 k2' k3 hAT2 y0 y1 y2 y3 y4
        have y3 := HY3.out
        go_wp2_with fail
        refine hAT1.mono ?_
        clear hAT1
        rintro e w2 ⟨z, rfl, hz, rfl⟩
        obtain ⟨zb, hzb⟩ : ∃ zb, z % b = zb := ⟨_, rfl⟩
        have hzl : zb < b := by rw [← hzb]; exact Nat.mod_lt _ (by omega)
        have hm1 : (z : Int).tmod (b : Int) = (zb : Int) := by rw [Int.tmod_eq_emod_of_nonneg (by omega), ← hzb]; exact (Int.natCast_emod z b).symm
        have hm2 : (z : Int) % (b : Int) = (zb : Int) := by rw [← hzb]; exact (Int.natCast_emod z b).symm
        have hw1 : IntKind.i64.wrap (1 + (zb : Int)) = ((zb + 1 : Nat) : Int) := by rw [show ((zb + 1 : Nat) : Int) = 1 + (zb : Int) from by omega]; exact IntWalk.i64_in _ (by omega)
        have hw0 : IntKind.i64.wrap (zb : Int) = (zb : Int) := IntWalk.i64_in _ (by omega)
        have hbn : ¬ ((b : Int) = 0) := by omega
        obtain ⟨na, hna⟩ : ∃ na, zb + 1 = na := ⟨_, rfl⟩
        rw [hna] at hw1
        have hna1 : 1 ≤ na ∧ na ≤ 8 := by omega
        clear hzb hna
        go_upto_if 88 with fail
        clear hm1 hm2 hw1 hw0 hbn y3
        go_cut [15] from 80 to 90 (fun t15 wx => ∃ nb : Nat, t15 = .int .i64 (nb : Int) ∧ 1 ≤ nb ∧ nb ≤ 8 ∧ (i2' = 0 → 2 ≤ nb) ∧ wr = wx)
        case first =>
         by_cases hi0 : i2' = 0
         ·have hi0b : ((i2' : Int) == 0) = true := by rw [hi0]; rfl
          obtain ⟨nb, hnb⟩ : ∃ nb, max na 2 = nb := ⟨_, rfl⟩
          have hmax : max (na : Int) 2 = (nb : Int) := by omega
          have HN : Hid (1 ≤ nb ∧ nb ≤ 8 ∧ (i2' = 0 → 2 ≤ nb)) := ⟨by omega, by omega, fun _ => by omega⟩
          clear hnb hi0
          go_wp2_with fail
          go_meet
          exact ⟨nb, rfl, HN.out.1, HN.out.2.1, HN.out.2.2, rfl⟩
         ·have hi0b : ((i2' : Int) == 0) = false := by simpa using hi0
          have hi0c : ¬ ((i2' : Int) = 0) := by omega
          have HN : Hid (1 ≤ na ∧ na ≤ 8 ∧ (i2' = 0 → 2 ≤ na)) := ⟨by omega, by omega, fun f => absurd f hi0⟩
          clear hi0
          go_wp2_with fail
          go_meet
          exact ⟨na, rfl, HN.out.1, HN.out.2.1, HN.out.2.2, rfl⟩
        case rest =>
         obtain ⟨nb, rfl, hb1, hb2, hb0, rfl⟩ := hcut
         have hws : IntKind.i64.wrap ((rr : Int) - (i2' : Int)) = (gk : Int) := by rw [show (rr : Int) - (i2' : Int) = (gk : Int) from by omega]; exact IntWalk.i64_in _ (by omega)
         obtain ⟨n, hn⟩ : ∃ n, min nb gk = n := ⟨_, rfl⟩
         have hmin : min (nb : Int) (gk : Int) = (n : Int) := by omega
         have hn1 : 1 ≤ n := by omega
         have hn2 : i2' + n ≤ rr := by omega
         have hn3 : i2' = 0 → 2 ≤ n := by omega
         clear hn hb0
         have HN3 := Lib.hid hn3
         clear hn3
         have hfl : fs2.length ≤ 50 := by have := HRS.out.len; have := HRS.out.most; omega
         have hm6 : m6 = fs2.length := HUW.out.a.firsts.sl.len
         obtain ⟨l1, hl1⟩ : ∃ l1, i2' + 1 = l1 := ⟨_, rfl⟩
         obtain ⟨h1, hh1⟩ : ∃ h1, i2' + n = h1 := ⟨_, rfl⟩
         have hwl : IntKind.i64.wrap ((i2' : Int) + 1) = (l1 : Int) := by rw [← hl1]; exact IntWalk.i64_in _ (by omega)
         have hwh : IntKind.i64.wrap ((i2' : Int) + (n : Int)) = (h1 : Int) := by rw [← hh1]; exact IntWalk.i64_in _ (by omega)
         have hfr : fs2.length = rr := by have := HRS.out.len; have := HRR.out; omega
         obtain ⟨AK, hAK, rAK⟩ := keys_mid HUW.out.a.firsts.sl (l := l1) (h := h1) (by omega) (by omega)
         obtain ⟨o5, ho5, rKD⟩ := kids_mid (g := g5) (off := 0) (l := i2') (h := h1) (n := rr) (c := c5) (by omega) (by omega) HC5.out
         have HYL : Hid (∀ b, Y b → b < wr.heap.size) := fun b f => (HUW.out.a.rng b f).2
         have HKM : Hid (∀ w', Below wr.heap.size wr w' → ShYC Y w' ((row2.take h1).drop i2') g5 o5) := fun w' hb => mid_at (ShYC.keep (fun b f => hb.block b (HYL.out b f)) (fun b f => f) _ _ _ (hb.block g5 (HUW.out.a.rows.lt rfl)) HKC.out) (by omega) (by have := HRR.out; omega) ho5
         have hlm : h1 - i2' = ((row2.take h1).drop i2').length := by have := HRR.out; rw [List.length_drop, List.length_take]; omega
         have HLM := Lib.hid hlm
         have HAK := Lib.hid hAK
         have HL1 := Lib.hid hl1
         have HH1 := Lib.hid hh1
         have HNE : Hid ([] ++ (row2.take h1).drop i2' ≠ []) := fun e => by
          have := congrArg List.length e
          rw [List.nil_append, ← hlm] at this
          simp at this
          omega
         have HGR : Hid (Sh.mk false false [] ([] ++ (fs2.take h1).drop l1) ([] ++ (row2.take h1).drop i2') = grp row2 fs2 i2' n) := by
          show _ = _
          rw [← hl1, ← hh1]; rfl
         have HFL := Lib.hid hfl
         have HM6 := Lib.hid hm6
         have HFR := Lib.hid hfr
         have hnh : h1 - i2' ≤ 50 := by omega
         clear hAK ho5 hlm hm6 hfr hl1 hh1
         go_upto_region 27 with fail
         clear hmin hws
         go_cut [16] from 97 to 114 (fun t16 wx => ∃ o, t16 = .pointer (some ⟨o, 0, none⟩) ∧ Hid (NodeV wr Y o (grp row2 fs2 i2' n) wx))
         case first =>
          obtain ⟨W0, hW0, ba0⟩ : ∃ W0 : World, wr.drew = W0 ∧ Below wr.heap.size wr W0 := ⟨_, rfl, (Below.refl _ wr).drew⟩
          refine region_T (fun k => k == 19) (fun _ : World => True) (by kernel_rfl) ?_
          rw [hW0]
          clear hW0
          have hC : True := trivial
          refine takeX 1 98 (v := ?_) rfl rfl (by kernel_rfl) (by kernel_rfl) (by kernel_rfl) (by kernel_rfl) (by kernel_rfl) (fun _ _ _ _ h => h) hC (by rfl) ?_ ?_
          rotate_left
          ·intro w hSw; (try dsimp only at hSw); go_simp; try (with_reducible rfl)
          simp only [List.setIfInBounds_toArray, List.set_cons_zero, List.set_cons_succ]
          refine takeX 2 99 (v := ?_) rfl rfl (by kernel_rfl) (by kernel_rfl) (by kernel_rfl) (by kernel_rfl) (by kernel_rfl) (fun _ _ _ _ h => h) hC (by rfl) ?_ ?_
          rotate_left
          ·intro w hSw; (try dsimp only at hSw); go_simp; try (with_reducible rfl)
          simp only [List.setIfInBounds_toArray, List.set_cons_zero, List.set_cons_succ]
          refine takeX 3 100 (v := ?_) rfl rfl (by kernel_rfl) (by kernel_rfl) (by kernel_rfl) (by kernel_rfl) (by kernel_rfl) (fun _ _ _ _ h => h) hC (by rfl) ?_ ?_
          rotate_left
          ·intro w hSw; (try dsimp only at hSw); go_simp; try (with_reducible rfl)
          simp only [List.setIfInBounds_toArray, List.set_cons_zero, List.set_cons_succ]
          refine takeX 4 101 (v := ?_) rfl rfl (by kernel_rfl) (by kernel_rfl) (by kernel_rfl) (by kernel_rfl) (by kernel_rfl) (fun _ _ _ _ h => h) hC (by rfl) ?_ ?_
          rotate_left
          ·intro w hSw; (try dsimp only at hSw); go_simp; try (with_reducible rfl)
          simp only [List.setIfInBounds_toArray, List.set_cons_zero, List.set_cons_succ]
          refine takeX 5 102 (v := ?_) rfl rfl (by kernel_rfl) (by kernel_rfl) (by kernel_rfl) (by kernel_rfl) (by kernel_rfl) (fun _ _ _ _ h => h) hC (by rfl) ?_ ?_
          rotate_left
          ·intro w hSw; (try dsimp only at hSw); go_simp; try (with_reducible rfl)
          simp only [List.setIfInBounds_toArray, List.set_cons_zero, List.set_cons_succ]
          refine takeX 6 103 (v := ?_) rfl rfl (by kernel_rfl) (by kernel_rfl) (by kernel_rfl) (by kernel_rfl) (by kernel_rfl) (fun _ _ _ _ h => h) hC (by rfl) ?_ ?_
          rotate_left
          ·intro w hSw; (try dsimp only at hSw); go_simp; try (with_reducible rfl)
          simp only [List.setIfInBounds_toArray, List.set_cons_zero, List.set_cons_succ]
          refine takeX 7 104 (v := ?_) rfl rfl (by kernel_rfl) (by kernel_rfl) (by kernel_rfl) (by kernel_rfl) (by kernel_rfl) (fun _ _ _ _ h => h) hC (by rfl) ?_ ?_
          rotate_left
          ·intro w hSw; (try dsimp only at hSw); go_simp; try (with_reducible rfl)
          simp only [List.setIfInBounds_toArray, List.set_cons_zero, List.set_cons_succ]
          refine takeX 10 107 (v := ?_) rfl rfl (by kernel_rfl) (by kernel_rfl) (by kernel_rfl) (by kernel_rfl) (by kernel_rfl) (fun _ _ _ _ h => h) hC (by rfl) ?_ ?_
          rotate_left
          ·intro w hSw; (try dsimp only at hSw); go_simp; try (with_reducible rfl)
          simp only [List.setIfInBounds_toArray, List.set_cons_zero, List.set_cons_succ]
          refine takeX 11 108 (v := ?_) rfl rfl (by kernel_rfl) (by kernel_rfl) (by kernel_rfl) (by kernel_rfl) (by kernel_rfl) (fun _ _ _ _ h => h) hC (by rfl) ?_ ?_
          rotate_left
          ·intro w hSw; (try dsimp only at hSw); go_simp; try (with_reducible rfl)
          simp only [List.setIfInBounds_toArray, List.set_cons_zero, List.set_cons_succ]
          refine takeX 12 109 (v := ?_) rfl rfl (by kernel_rfl) (by kernel_rfl) (by kernel_rfl) (by kernel_rfl) (by kernel_rfl) (fun _ _ _ _ h => h) hC (by rfl) ?_ ?_
          rotate_left
          ·intro w hSw; (try dsimp only at hSw); go_simp; try (with_reducible rfl)
          simp only [List.setIfInBounds_toArray, List.set_cons_zero, List.set_cons_succ]
          refine takeX 13 110 (v := ?_) rfl rfl (by kernel_rfl) (by kernel_rfl) (by kernel_rfl) (by kernel_rfl) (by kernel_rfl) (fun _ _ _ _ h => h) hC (by rfl) ?_ ?_
          rotate_left
          ·intro w hSw; (try dsimp only at hSw); go_simp; try (with_reducible rfl)
          simp only [List.setIfInBounds_toArray, List.set_cons_zero, List.set_cons_succ]
          refine takeX 14 111 (v := ?_) rfl rfl (by kernel_rfl) (by kernel_rfl) (by kernel_rfl) (by kernel_rfl) (by kernel_rfl) (fun _ _ _ _ h => h) hC (by rfl) ?_ ?_
          rotate_left
          ·intro w hSw; (try dsimp only at hSw); go_simp; try (with_reducible rfl)
          simp only [List.setIfInBounds_toArray, List.set_cons_zero, List.set_cons_succ]
          refine takeX 15 112 (v := ?_) rfl rfl (by kernel_rfl) (by kernel_rfl) (by kernel_rfl) (by kernel_rfl) (by kernel_rfl) (fun _ _ _ _ h => h) hC (by rfl) ?_ ?_
          rotate_left
          ·intro w hSw; (try dsimp only at hSw); go_simp; try (with_reducible rfl)
          simp only [List.setIfInBounds_toArray, List.set_cons_zero, List.set_cons_succ]
          clear hC rAK rKD
          refine threeT (i := 0) (j := 9) (l := 18) (by kernel_rfl) rfl rfl rfl (by rfl) (by rfl) (by rfl) (fun KK hK => ?_) (fun KK hK => ?_) (fun KK hK => ?_)
          ·(try go_simp)
           obtain ⟨W1, K, hX1, hn_, b1, eK, s1⟩ := one_new W0 #[] i6T
           (try rw [hX1]); (try rw [hn_])
           have ba1 := ba0.trans (b1.mono ba0.size)
           have hr1 : Row i6T wr.heap.size W1 (.slice (some ⟨K, 0, none⟩) 0 0) [] := Row.of_block eK (by have := ba0.size; omega)
           refine hK.out _ _ (fun _ => trivial) ?_
           clear hK KK eK hX1 s1 hn_ b1
           try simp only [Act.put, List.setIfInBounds_toArray, List.set_cons_zero, List.set_cons_succ]
           refine threeT (i := 8) (j := 9) (l := 18) (by kernel_rfl) rfl rfl rfl (by rfl) (by rfl) (by rfl) (fun KK hK => ?_) (fun KK hK => ?_) (fun KK hK => ?_)
           ·obtain ⟨v8, W2, hX2, hr2, hg2⟩ := run_pushAll rowK 29 _ _ hr1 _ _ _ _ (HAK.out.below ba1) (by simp; omega) ba1.size
            obtain ⟨P8, d8, e8, -⟩ := hr2.form
            obtain ⟨n8, hn8⟩ : ∃ n, ([] ++ (fs2.take h1).drop l1).length = n := ⟨_, rfl⟩
            rw [hn8] at e8
            subst e8
            have ba2 := ba1.trans ((Below.refl _ W1).grown hg2 ba1.size fun k hk => (World.ownsRow.lt hr1 k hk).1)
            refine Lib.wp_append_run (P := Try.prog) W1 (.tmp 97) (.tmp 104) 29 29 rfl _ _ rfl rfl _ _ hX2 ?_
            refine hK.out _ _ (fun _ => trivial) ?_
            clear hK KK hX2 hg2 hn8
            simp only [Act.put, List.getElem_toArray, List.getElem_cons_succ, List.getElem_cons_zero, List.setIfInBounds_toArray, List.set_cons_zero, List.set_cons_succ]
            refine twoT (i := 9) (j := 18) (by kernel_rfl) rfl rfl (by rfl) (by rfl) (fun KK hK => ?_) (fun KK hK => ?_)
            ·(try go_simp)
             obtain ⟨W3, D, hX3, hn_, b3, eD3, s3⟩ := one_new W2 #[] shT
             (try rw [hX3]); (try rw [hn_])
             have ba3 := ba2.trans (b3.mono ba2.size)
             have gD : wr.heap.size ≤ D := by have := ba2.size; omega
             have hr3 := own_at hr2 fun b f => b3.block b (World.ownsRow.lt hr2 b f).2
             refine hK.out _ _ (fun _ => trivial) ?_
             clear hK KK hX3 s3 hn_ b3
             try simp only [Act.put, List.setIfInBounds_toArray, List.set_cons_zero, List.set_cons_succ]
             refine twoT (i := 16) (j := 18) (by kernel_rfl) rfl rfl (by rfl) (by rfl) (fun KK hK => ?_) (fun KK hK => ?_)
             ·obtain ⟨v16, W4, hX4, hk4, hg4, hq, C16, c16, e16⟩ := (ShR.of_block (Y := Y) eD3).push (m := h1 - i2') (k := c5 - i2') (HKM.out _ ba3) HLM.out (by simp; omega) (fun b f g => by have f2 : D = b := Option.some.inj (show some D = some b from f); have := HYL.out b g; omega) (fun b f => Nat.lt_of_lt_of_le (HYL.out b f) ba3.size)
              obtain ⟨n16, hn16⟩ : ∃ n, ([] : List Sh).length + (h1 - i2') = n := ⟨_, rfl⟩
              rw [hn16] at e16
              subst e16
              have ba4 := ba3.trans ((Below.refl _ W3).grown hg4 ba3.size fun k f => by have f2 : D = k := Option.some.inj (show some D = some k from f); omega)
              have hr4 := row_past hr3 eD3 hg4
              have hCw : ∀ b, (Value.slice C16 n16 c16).ownBlock = some b → wr.heap.size ≤ b := fun b f => by rcases hq b f with g | g; (have f2 : D = b := Option.some.inj (show some D = some b from g)); omega; have := ba3.size; omega
              refine Lib.wp_append_run (P := Try.prog) W3 (.tmp 106) (.tmp 112) 91 91 rfl _ _ rfl rfl _ _ hX4 ?_
              refine hK.out _ _ (fun _ => trivial) ?_
              clear hK KK hX4 hg4 hn16 hq
              simp only [Act.put, List.getElem_toArray, List.getElem_cons_succ, List.getElem_cons_zero, List.setIfInBounds_toArray, List.set_cons_zero, List.set_cons_succ]
              have hC : True := trivial
              refine takeX 17 114 (v := ?_) rfl rfl (by kernel_rfl) (by kernel_rfl) (by kernel_rfl) (by kernel_rfl) (by kernel_rfl) (fun _ _ _ _ h => h) hC (by rfl) ?_ ?_
              rotate_left
              ·intro w hSw; (try dsimp only at hSw); go_simp; try (with_reducible rfl)
              simp only [List.setIfInBounds_toArray, List.set_cons_zero, List.set_cons_succ]
              clear hC
              refine oneT (i := 18) (by kernel_rfl) rfl (by rfl) (fun KK hK => ?_)
              (try go_simp)
              obtain ⟨W5, o, hX5, hn_, b5, et5, s5⟩ := Shc.new W4 (.bool false) (.bool false) (.slice none 0 0) (.slice none 0 0) (.slice none 0 0)
              (try rw [hX5]); (try rw [hn_])
              have ba5 := ba4.trans (b5.mono ba4.size)
              have hgo : wr.heap.size ≤ o := by have := ba4.size; omega
              have hCo : ∀ b, (Value.slice C16 n16 c16).ownBlock = some b → wr.heap.size ≤ b ∧ b ≠ o := fun b f => ⟨hCw b f, by have := hk4.lt f; omega⟩
              have hr5 := own_at hr4 fun b f => b5.block b (World.ownsRow.lt hr4 b f).2
              have hk5 := hk4.keep (fun b f => b5.block b (Nat.lt_of_lt_of_le (HYL.out b f) ba4.size)) (fun b f => b5.block b (hk4.lt f)) fun b f => f
              refine hK.out _ _ (fun _ => trivial) ?_
              clear hK KK hX5 s5 hn_ b5
              try simp only [Act.put, List.setIfInBounds_toArray, List.set_cons_zero, List.set_cons_succ]
              have HE := Lib.hid ((kid_end et5 hr5 hk5 ba5 hgo hCo HYL.out).node HNE.out)
              rw [HGR.out] at HE
              have HT3 := Lib.hid et5
              clear ba0 ba1 ba2 ba3 ba4 ba5 et5 hr5 hk5 hgo hCo
              obtain ⟨c0', c1', c2', c3', c4'⟩ := HT3.out.cells
              obtain ⟨f0', f1', f2', f3', f4'⟩ := HT3.out.frees
              refine oneT (i := 19) (by kernel_rfl) rfl (by rfl) (fun KK hK => ?_)
              go_simp
              refine hK.out _ _ (fun h => absurd h (by decide)) ?_
              clear hK KK
              try simp only [Act.put, List.setIfInBounds_toArray, List.set_cons_zero, List.set_cons_succ]
              refine doneT (by kernel_rfl) ?_
              go_wp2_with fail
              go_meet
              exact ⟨o, rfl, HE.out⟩
             ·(try go_simp)
              obtain ⟨W4, o, hX4, hn_, b4, et4, s4⟩ := Shc.new W3 (.bool false) (.bool false) (.slice none 0 0) (.slice none 0 0) (.slice none 0 0)
              (try rw [hX4]); (try rw [hn_])
              have ba4 := ba3.trans (b4.mono ba3.size)
              have hgo : wr.heap.size ≤ o := by have := ba3.size; omega
              have nDo : D ≠ o := by have := (Array.getElem?_eq_some_iff.1 eD3).1; omega
              have hr4 := own_at hr3 fun b f => b4.block b (World.ownsRow.lt hr3 b f).2
              have eD4 := blk_below eD3 b4
              refine hK.out _ _ (fun _ => trivial) ?_
              clear hK KK hX4 s4 hn_ b4
              try simp only [Act.put, List.setIfInBounds_toArray, List.set_cons_zero, List.set_cons_succ]
              refine oneT (i := 16) (by kernel_rfl) rfl (by rfl) (fun KK hK => ?_)
              obtain ⟨v16, W5, hX5, hk5, hg5, hq, C16, c16, e16⟩ := (ShR.of_block (Y := Y) eD4).push (m := h1 - i2') (k := c5 - i2') (HKM.out _ ba4) HLM.out (by simp; omega) (fun b f g => by have f2 : D = b := Option.some.inj (show some D = some b from f); have := HYL.out b g; omega) (fun b f => Nat.lt_of_lt_of_le (HYL.out b f) ba4.size)
              obtain ⟨n16, hn16⟩ : ∃ n, ([] : List Sh).length + (h1 - i2') = n := ⟨_, rfl⟩
              rw [hn16] at e16
              subst e16
              have ba5 := ba4.trans ((Below.refl _ W4).grown hg5 ba4.size fun k f => by have f2 : D = k := Option.some.inj (show some D = some k from f); omega)
              have hr5 := row_past hr4 eD4 hg5
              have hCw : ∀ b, (Value.slice C16 n16 c16).ownBlock = some b → wr.heap.size ≤ b := fun b f => by rcases hq b f with g | g; (have f2 : D = b := Option.some.inj (show some D = some b from g)); omega; have := ba4.size; omega
              have hCo : ∀ b, (Value.slice C16 n16 c16).ownBlock = some b → wr.heap.size ≤ b ∧ b ≠ o := fun b f => ⟨hCw b f, by have := (Array.getElem?_eq_some_iff.1 et4).1; rcases hq b f with g | g; (have f2 : D = b := Option.some.inj (show some D = some b from g)); omega; omega⟩
              have et5 := et4.at_ (hg5.block o (Array.getElem?_eq_some_iff.1 et4).1 fun f2 => nDo (Option.some.inj (show some D = some o from f2.symm)))
              refine Lib.wp_append_run (P := Try.prog) W4 (.tmp 106) (.tmp 112) 91 91 rfl _ _ rfl rfl _ _ hX5 ?_
              refine hK.out _ _ (fun _ => trivial) ?_
              clear hK KK hX5 hg5 hn16 hq
              simp only [Act.put, List.getElem_toArray, List.getElem_cons_succ, List.getElem_cons_zero, List.setIfInBounds_toArray, List.set_cons_zero, List.set_cons_succ]
              have hC : True := trivial
              refine takeX 17 114 (v := ?_) rfl rfl (by kernel_rfl) (by kernel_rfl) (by kernel_rfl) (by kernel_rfl) (by kernel_rfl) (fun _ _ _ _ h => h) hC (by rfl) ?_ ?_
              rotate_left
              ·intro w hSw; (try dsimp only at hSw); go_simp; try (with_reducible rfl)
              simp only [List.setIfInBounds_toArray, List.set_cons_zero, List.set_cons_succ]
              clear hC
              have HE := Lib.hid ((kid_end et5 hr5 hk5 ba5 hgo hCo HYL.out).node HNE.out)
              rw [HGR.out] at HE
              have HT3 := Lib.hid et5
              clear ba0 ba1 ba2 ba3 ba4 ba5 et5 hr5 hk5 hgo hCo
              obtain ⟨c0', c1', c2', c3', c4'⟩ := HT3.out.cells
              obtain ⟨f0', f1', f2', f3', f4'⟩ := HT3.out.frees
              refine oneT (i := 19) (by kernel_rfl) rfl (by rfl) (fun KK hK => ?_)
              go_simp
              refine hK.out _ _ (fun h => absurd h (by decide)) ?_
              clear hK KK
              try simp only [Act.put, List.setIfInBounds_toArray, List.set_cons_zero, List.set_cons_succ]
              refine doneT (by kernel_rfl) ?_
              go_wp2_with fail
              go_meet
              exact ⟨o, rfl, HE.out⟩
            ·(try go_simp)
             obtain ⟨W3, o, hX3, hn_, b3, et3, s3⟩ := Shc.new W2 (.bool false) (.bool false) (.slice none 0 0) (.slice none 0 0) (.slice none 0 0)
             (try rw [hX3]); (try rw [hn_])
             have ba3 := ba2.trans (b3.mono ba2.size)
             have hgo : wr.heap.size ≤ o := by have := ba2.size; omega
             have hr3 := own_at hr2 fun b f => b3.block b (World.ownsRow.lt hr2 b f).2
             refine hK.out _ _ (fun _ => trivial) ?_
             clear hK KK hX3 s3 hn_ b3
             try simp only [Act.put, List.setIfInBounds_toArray, List.set_cons_zero, List.set_cons_succ]
             refine oneT (i := 9) (by kernel_rfl) rfl (by rfl) (fun KK hK => ?_)
             (try go_simp)
             obtain ⟨W4, D, hX4, hn_, b4, eD4, s4⟩ := one_new W3 #[] shT
             (try rw [hX4]); (try rw [hn_])
             have ba4 := ba3.trans (b4.mono ba3.size)
             have gD : wr.heap.size ≤ D := by have := ba3.size; omega
             have nDo : D ≠ o := by have := (Array.getElem?_eq_some_iff.1 et3).1; omega
             have hr4 := own_at hr3 fun b f => b4.block b (World.ownsRow.lt hr3 b f).2
             have et4 := et3.below b4
             refine hK.out _ _ (fun _ => trivial) ?_
             clear hK KK hX4 s4 hn_ b4
             try simp only [Act.put, List.setIfInBounds_toArray, List.set_cons_zero, List.set_cons_succ]
             refine oneT (i := 16) (by kernel_rfl) rfl (by rfl) (fun KK hK => ?_)
             obtain ⟨v16, W5, hX5, hk5, hg5, hq, C16, c16, e16⟩ := (ShR.of_block (Y := Y) eD4).push (m := h1 - i2') (k := c5 - i2') (HKM.out _ ba4) HLM.out (by simp; omega) (fun b f g => by have f2 : D = b := Option.some.inj (show some D = some b from f); have := HYL.out b g; omega) (fun b f => Nat.lt_of_lt_of_le (HYL.out b f) ba4.size)
             obtain ⟨n16, hn16⟩ : ∃ n, ([] : List Sh).length + (h1 - i2') = n := ⟨_, rfl⟩
             rw [hn16] at e16
             subst e16
             have ba5 := ba4.trans ((Below.refl _ W4).grown hg5 ba4.size fun k f => by have f2 : D = k := Option.some.inj (show some D = some k from f); omega)
             have hr5 := row_past hr4 eD4 hg5
             have hCw : ∀ b, (Value.slice C16 n16 c16).ownBlock = some b → wr.heap.size ≤ b := fun b f => by rcases hq b f with g | g; (have f2 : D = b := Option.some.inj (show some D = some b from g)); omega; have := ba4.size; omega
             have hCo : ∀ b, (Value.slice C16 n16 c16).ownBlock = some b → wr.heap.size ≤ b ∧ b ≠ o := fun b f => ⟨hCw b f, by have := (Array.getElem?_eq_some_iff.1 et4).1; rcases hq b f with g | g; (have f2 : D = b := Option.some.inj (show some D = some b from g)); omega; omega⟩
             have et5 := et4.at_ (hg5.block o (Array.getElem?_eq_some_iff.1 et4).1 fun f2 => nDo (Option.some.inj (show some D = some o from f2.symm)))
             refine Lib.wp_append_run (P := Try.prog) W4 (.tmp 106) (.tmp 112) 91 91 rfl _ _ rfl rfl _ _ hX5 ?_
             refine hK.out _ _ (fun _ => trivial) ?_
             clear hK KK hX5 hg5 hn16 hq
             simp only [Act.put, List.getElem_toArray, List.getElem_cons_succ, List.getElem_cons_zero, List.setIfInBounds_toArray, List.set_cons_zero, List.set_cons_succ]
             have hC : True := trivial
             refine takeX 17 114 (v := ?_) rfl rfl (by kernel_rfl) (by kernel_rfl) (by kernel_rfl) (by kernel_rfl) (by kernel_rfl) (fun _ _ _ _ h => h) hC (by rfl) ?_ ?_
             rotate_left
             ·intro w hSw; (try dsimp only at hSw); go_simp; try (with_reducible rfl)
             simp only [List.setIfInBounds_toArray, List.set_cons_zero, List.set_cons_succ]
             clear hC
             have HE := Lib.hid ((kid_end et5 hr5 hk5 ba5 hgo hCo HYL.out).node HNE.out)
             rw [HGR.out] at HE
             have HT3 := Lib.hid et5
             clear ba0 ba1 ba2 ba3 ba4 ba5 et5 hr5 hk5 hgo hCo
             obtain ⟨c0', c1', c2', c3', c4'⟩ := HT3.out.cells
             obtain ⟨f0', f1', f2', f3', f4'⟩ := HT3.out.frees
             refine oneT (i := 19) (by kernel_rfl) rfl (by rfl) (fun KK hK => ?_)
             go_simp
             refine hK.out _ _ (fun h => absurd h (by decide)) ?_
             clear hK KK
             try simp only [Act.put, List.setIfInBounds_toArray, List.set_cons_zero, List.set_cons_succ]
             refine doneT (by kernel_rfl) ?_
             go_wp2_with fail
             go_meet
             exact ⟨o, rfl, HE.out⟩
           ·(try go_simp)
            obtain ⟨W2, D, hX2, hn_, b2, eD2, s2⟩ := one_new W1 #[] shT
            (try rw [hX2]); (try rw [hn_])
            have ba2 := ba1.trans (b2.mono ba1.size)
            have gD : wr.heap.size ≤ D := by have := ba1.size; omega
            have hr2 := own_at hr1 fun b f => b2.block b (World.ownsRow.lt hr1 b f).2
            refine hK.out _ _ (fun _ => trivial) ?_
            clear hK KK hX2 s2 hn_ b2
            try simp only [Act.put, List.setIfInBounds_toArray, List.set_cons_zero, List.set_cons_succ]
            refine twoT (i := 8) (j := 18) (by kernel_rfl) rfl rfl (by rfl) (by rfl) (fun KK hK => ?_) (fun KK hK => ?_)
            ·obtain ⟨v8, W3, hX3, hr3, hg3⟩ := run_pushAll rowK 29 _ _ hr2 _ _ _ _ (HAK.out.below ba2) (by simp; omega) ba2.size
             obtain ⟨P8, d8, e8, -⟩ := hr3.form
             obtain ⟨n8, hn8⟩ : ∃ n, ([] ++ (fs2.take h1).drop l1).length = n := ⟨_, rfl⟩
             rw [hn8] at e8
             subst e8
             have ba3 := ba2.trans ((Below.refl _ W2).grown hg3 ba2.size fun k hk => (World.ownsRow.lt hr2 k hk).1)
             have eD3 := blk_push eD2 hr2 hg3
             refine Lib.wp_append_run (P := Try.prog) W2 (.tmp 97) (.tmp 104) 29 29 rfl _ _ rfl rfl _ _ hX3 ?_
             refine hK.out _ _ (fun _ => trivial) ?_
             clear hK KK hX3 hg3 hn8
             simp only [Act.put, List.getElem_toArray, List.getElem_cons_succ, List.getElem_cons_zero, List.setIfInBounds_toArray, List.set_cons_zero, List.set_cons_succ]
             refine twoT (i := 16) (j := 18) (by kernel_rfl) rfl rfl (by rfl) (by rfl) (fun KK hK => ?_) (fun KK hK => ?_)
             ·obtain ⟨v16, W4, hX4, hk4, hg4, hq, C16, c16, e16⟩ := (ShR.of_block (Y := Y) eD3).push (m := h1 - i2') (k := c5 - i2') (HKM.out _ ba3) HLM.out (by simp; omega) (fun b f g => by have f2 : D = b := Option.some.inj (show some D = some b from f); have := HYL.out b g; omega) (fun b f => Nat.lt_of_lt_of_le (HYL.out b f) ba3.size)
              obtain ⟨n16, hn16⟩ : ∃ n, ([] : List Sh).length + (h1 - i2') = n := ⟨_, rfl⟩
              rw [hn16] at e16
              subst e16
              have ba4 := ba3.trans ((Below.refl _ W3).grown hg4 ba3.size fun k f => by have f2 : D = k := Option.some.inj (show some D = some k from f); omega)
              have hr4 := row_past hr3 eD3 hg4
              have hCw : ∀ b, (Value.slice C16 n16 c16).ownBlock = some b → wr.heap.size ≤ b := fun b f => by rcases hq b f with g | g; (have f2 : D = b := Option.some.inj (show some D = some b from g)); omega; have := ba3.size; omega
              refine Lib.wp_append_run (P := Try.prog) W3 (.tmp 106) (.tmp 112) 91 91 rfl _ _ rfl rfl _ _ hX4 ?_
              refine hK.out _ _ (fun _ => trivial) ?_
              clear hK KK hX4 hg4 hn16 hq
              simp only [Act.put, List.getElem_toArray, List.getElem_cons_succ, List.getElem_cons_zero, List.setIfInBounds_toArray, List.set_cons_zero, List.set_cons_succ]
              have hC : True := trivial
              refine takeX 17 114 (v := ?_) rfl rfl (by kernel_rfl) (by kernel_rfl) (by kernel_rfl) (by kernel_rfl) (by kernel_rfl) (fun _ _ _ _ h => h) hC (by rfl) ?_ ?_
              rotate_left
              ·intro w hSw; (try dsimp only at hSw); go_simp; try (with_reducible rfl)
              simp only [List.setIfInBounds_toArray, List.set_cons_zero, List.set_cons_succ]
              clear hC
              refine oneT (i := 18) (by kernel_rfl) rfl (by rfl) (fun KK hK => ?_)
              (try go_simp)
              obtain ⟨W5, o, hX5, hn_, b5, et5, s5⟩ := Shc.new W4 (.bool false) (.bool false) (.slice none 0 0) (.slice none 0 0) (.slice none 0 0)
              (try rw [hX5]); (try rw [hn_])
              have ba5 := ba4.trans (b5.mono ba4.size)
              have hgo : wr.heap.size ≤ o := by have := ba4.size; omega
              have hCo : ∀ b, (Value.slice C16 n16 c16).ownBlock = some b → wr.heap.size ≤ b ∧ b ≠ o := fun b f => ⟨hCw b f, by have := hk4.lt f; omega⟩
              have hr5 := own_at hr4 fun b f => b5.block b (World.ownsRow.lt hr4 b f).2
              have hk5 := hk4.keep (fun b f => b5.block b (Nat.lt_of_lt_of_le (HYL.out b f) ba4.size)) (fun b f => b5.block b (hk4.lt f)) fun b f => f
              refine hK.out _ _ (fun _ => trivial) ?_
              clear hK KK hX5 s5 hn_ b5
              try simp only [Act.put, List.setIfInBounds_toArray, List.set_cons_zero, List.set_cons_succ]
              have HE := Lib.hid ((kid_end et5 hr5 hk5 ba5 hgo hCo HYL.out).node HNE.out)
              rw [HGR.out] at HE
              have HT3 := Lib.hid et5
              clear ba0 ba1 ba2 ba3 ba4 ba5 et5 hr5 hk5 hgo hCo
              obtain ⟨c0', c1', c2', c3', c4'⟩ := HT3.out.cells
              obtain ⟨f0', f1', f2', f3', f4'⟩ := HT3.out.frees
              refine oneT (i := 19) (by kernel_rfl) rfl (by rfl) (fun KK hK => ?_)
              go_simp
              refine hK.out _ _ (fun h => absurd h (by decide)) ?_
              clear hK KK
              try simp only [Act.put, List.setIfInBounds_toArray, List.set_cons_zero, List.set_cons_succ]
              refine doneT (by kernel_rfl) ?_
              go_wp2_with fail
              go_meet
              exact ⟨o, rfl, HE.out⟩
             ·(try go_simp)
              obtain ⟨W4, o, hX4, hn_, b4, et4, s4⟩ := Shc.new W3 (.bool false) (.bool false) (.slice none 0 0) (.slice none 0 0) (.slice none 0 0)
              (try rw [hX4]); (try rw [hn_])
              have ba4 := ba3.trans (b4.mono ba3.size)
              have hgo : wr.heap.size ≤ o := by have := ba3.size; omega
              have nDo : D ≠ o := by have := (Array.getElem?_eq_some_iff.1 eD3).1; omega
              have hr4 := own_at hr3 fun b f => b4.block b (World.ownsRow.lt hr3 b f).2
              have eD4 := blk_below eD3 b4
              refine hK.out _ _ (fun _ => trivial) ?_
              clear hK KK hX4 s4 hn_ b4
              try simp only [Act.put, List.setIfInBounds_toArray, List.set_cons_zero, List.set_cons_succ]
              refine oneT (i := 16) (by kernel_rfl) rfl (by rfl) (fun KK hK => ?_)
              obtain ⟨v16, W5, hX5, hk5, hg5, hq, C16, c16, e16⟩ := (ShR.of_block (Y := Y) eD4).push (m := h1 - i2') (k := c5 - i2') (HKM.out _ ba4) HLM.out (by simp; omega) (fun b f g => by have f2 : D = b := Option.some.inj (show some D = some b from f); have := HYL.out b g; omega) (fun b f => Nat.lt_of_lt_of_le (HYL.out b f) ba4.size)
              obtain ⟨n16, hn16⟩ : ∃ n, ([] : List Sh).length + (h1 - i2') = n := ⟨_, rfl⟩
              rw [hn16] at e16
              subst e16
              have ba5 := ba4.trans ((Below.refl _ W4).grown hg5 ba4.size fun k f => by have f2 : D = k := Option.some.inj (show some D = some k from f); omega)
              have hr5 := row_past hr4 eD4 hg5
              have hCw : ∀ b, (Value.slice C16 n16 c16).ownBlock = some b → wr.heap.size ≤ b := fun b f => by rcases hq b f with g | g; (have f2 : D = b := Option.some.inj (show some D = some b from g)); omega; have := ba4.size; omega
              have hCo : ∀ b, (Value.slice C16 n16 c16).ownBlock = some b → wr.heap.size ≤ b ∧ b ≠ o := fun b f => ⟨hCw b f, by have := (Array.getElem?_eq_some_iff.1 et4).1; rcases hq b f with g | g; (have f2 : D = b := Option.some.inj (show some D = some b from g)); omega; omega⟩
              have et5 := et4.at_ (hg5.block o (Array.getElem?_eq_some_iff.1 et4).1 fun f2 => nDo (Option.some.inj (show some D = some o from f2.symm)))
              refine Lib.wp_append_run (P := Try.prog) W4 (.tmp 106) (.tmp 112) 91 91 rfl _ _ rfl rfl _ _ hX5 ?_
              refine hK.out _ _ (fun _ => trivial) ?_
              clear hK KK hX5 hg5 hn16 hq
              simp only [Act.put, List.getElem_toArray, List.getElem_cons_succ, List.getElem_cons_zero, List.setIfInBounds_toArray, List.set_cons_zero, List.set_cons_succ]
              have hC : True := trivial
              refine takeX 17 114 (v := ?_) rfl rfl (by kernel_rfl) (by kernel_rfl) (by kernel_rfl) (by kernel_rfl) (by kernel_rfl) (fun _ _ _ _ h => h) hC (by rfl) ?_ ?_
              rotate_left
              ·intro w hSw; (try dsimp only at hSw); go_simp; try (with_reducible rfl)
              simp only [List.setIfInBounds_toArray, List.set_cons_zero, List.set_cons_succ]
              clear hC
              have HE := Lib.hid ((kid_end et5 hr5 hk5 ba5 hgo hCo HYL.out).node HNE.out)
              rw [HGR.out] at HE
              have HT3 := Lib.hid et5
              clear ba0 ba1 ba2 ba3 ba4 ba5 et5 hr5 hk5 hgo hCo
              obtain ⟨c0', c1', c2', c3', c4'⟩ := HT3.out.cells
              obtain ⟨f0', f1', f2', f3', f4'⟩ := HT3.out.frees
              refine oneT (i := 19) (by kernel_rfl) rfl (by rfl) (fun KK hK => ?_)
              go_simp
              refine hK.out _ _ (fun h => absurd h (by decide)) ?_
              clear hK KK
              try simp only [Act.put, List.setIfInBounds_toArray, List.set_cons_zero, List.set_cons_succ]
              refine doneT (by kernel_rfl) ?_
              go_wp2_with fail
              go_meet
              exact ⟨o, rfl, HE.out⟩
            ·(try go_simp)
             obtain ⟨W3, o, hX3, hn_, b3, et3, s3⟩ := Shc.new W2 (.bool false) (.bool false) (.slice none 0 0) (.slice none 0 0) (.slice none 0 0)
             (try rw [hX3]); (try rw [hn_])
             have ba3 := ba2.trans (b3.mono ba2.size)
             have hgo : wr.heap.size ≤ o := by have := ba2.size; omega
             have nDo : D ≠ o := by have := (Array.getElem?_eq_some_iff.1 eD2).1; omega
             have hr3 := own_at hr2 fun b f => b3.block b (World.ownsRow.lt hr2 b f).2
             have eD3 := blk_below eD2 b3
             refine hK.out _ _ (fun _ => trivial) ?_
             clear hK KK hX3 s3 hn_ b3
             try simp only [Act.put, List.setIfInBounds_toArray, List.set_cons_zero, List.set_cons_succ]
             refine oneT (i := 8) (by kernel_rfl) rfl (by rfl) (fun KK hK => ?_)
             obtain ⟨v8, W4, hX4, hr4, hg4⟩ := run_pushAll rowK 29 _ _ hr3 _ _ _ _ (HAK.out.below ba3) (by simp; omega) ba3.size
             obtain ⟨P8, d8, e8, -⟩ := hr4.form
             obtain ⟨n8, hn8⟩ : ∃ n, ([] ++ (fs2.take h1).drop l1).length = n := ⟨_, rfl⟩
             rw [hn8] at e8
             subst e8
             have ba4 := ba3.trans ((Below.refl _ W3).grown hg4 ba3.size fun k hk => (World.ownsRow.lt hr3 k hk).1)
             have eD4 := blk_push eD3 hr3 hg4
             have et4 := shc_push et3 hr3 hg4
             refine Lib.wp_append_run (P := Try.prog) W3 (.tmp 97) (.tmp 104) 29 29 rfl _ _ rfl rfl _ _ hX4 ?_
             refine hK.out _ _ (fun _ => trivial) ?_
             clear hK KK hX4 hg4 hn8
             simp only [Act.put, List.getElem_toArray, List.getElem_cons_succ, List.getElem_cons_zero, List.setIfInBounds_toArray, List.set_cons_zero, List.set_cons_succ]
             refine oneT (i := 16) (by kernel_rfl) rfl (by rfl) (fun KK hK => ?_)
             obtain ⟨v16, W5, hX5, hk5, hg5, hq, C16, c16, e16⟩ := (ShR.of_block (Y := Y) eD4).push (m := h1 - i2') (k := c5 - i2') (HKM.out _ ba4) HLM.out (by simp; omega) (fun b f g => by have f2 : D = b := Option.some.inj (show some D = some b from f); have := HYL.out b g; omega) (fun b f => Nat.lt_of_lt_of_le (HYL.out b f) ba4.size)
             obtain ⟨n16, hn16⟩ : ∃ n, ([] : List Sh).length + (h1 - i2') = n := ⟨_, rfl⟩
             rw [hn16] at e16
             subst e16
             have ba5 := ba4.trans ((Below.refl _ W4).grown hg5 ba4.size fun k f => by have f2 : D = k := Option.some.inj (show some D = some k from f); omega)
             have hr5 := row_past hr4 eD4 hg5
             have hCw : ∀ b, (Value.slice C16 n16 c16).ownBlock = some b → wr.heap.size ≤ b := fun b f => by rcases hq b f with g | g; (have f2 : D = b := Option.some.inj (show some D = some b from g)); omega; have := ba4.size; omega
             have hCo : ∀ b, (Value.slice C16 n16 c16).ownBlock = some b → wr.heap.size ≤ b ∧ b ≠ o := fun b f => ⟨hCw b f, by have := (Array.getElem?_eq_some_iff.1 et4).1; rcases hq b f with g | g; (have f2 : D = b := Option.some.inj (show some D = some b from g)); omega; omega⟩
             have et5 := et4.at_ (hg5.block o (Array.getElem?_eq_some_iff.1 et4).1 fun f2 => nDo (Option.some.inj (show some D = some o from f2.symm)))
             refine Lib.wp_append_run (P := Try.prog) W4 (.tmp 106) (.tmp 112) 91 91 rfl _ _ rfl rfl _ _ hX5 ?_
             refine hK.out _ _ (fun _ => trivial) ?_
             clear hK KK hX5 hg5 hn16 hq
             simp only [Act.put, List.getElem_toArray, List.getElem_cons_succ, List.getElem_cons_zero, List.setIfInBounds_toArray, List.set_cons_zero, List.set_cons_succ]
             have hC : True := trivial
             refine takeX 17 114 (v := ?_) rfl rfl (by kernel_rfl) (by kernel_rfl) (by kernel_rfl) (by kernel_rfl) (by kernel_rfl) (fun _ _ _ _ h => h) hC (by rfl) ?_ ?_
             rotate_left
             ·intro w hSw; (try dsimp only at hSw); go_simp; try (with_reducible rfl)
             simp only [List.setIfInBounds_toArray, List.set_cons_zero, List.set_cons_succ]
             clear hC
             have HE := Lib.hid ((kid_end et5 hr5 hk5 ba5 hgo hCo HYL.out).node HNE.out)
             rw [HGR.out] at HE
             have HT3 := Lib.hid et5
             clear ba0 ba1 ba2 ba3 ba4 ba5 et5 hr5 hk5 hgo hCo
             obtain ⟨c0', c1', c2', c3', c4'⟩ := HT3.out.cells
             obtain ⟨f0', f1', f2', f3', f4'⟩ := HT3.out.frees
             refine oneT (i := 19) (by kernel_rfl) rfl (by rfl) (fun KK hK => ?_)
             go_simp
             refine hK.out _ _ (fun h => absurd h (by decide)) ?_
             clear hK KK
             try simp only [Act.put, List.setIfInBounds_toArray, List.set_cons_zero, List.set_cons_succ]
             refine doneT (by kernel_rfl) ?_
             go_wp2_with fail
             go_meet
             exact ⟨o, rfl, HE.out⟩
           ·(try go_simp)
            obtain ⟨W2, o, hX2, hn_, b2, et2, s2⟩ := Shc.new W1 (.bool false) (.bool false) (.slice none 0 0) (.slice none 0 0) (.slice none 0 0)
            (try rw [hX2]); (try rw [hn_])
            have ba2 := ba1.trans (b2.mono ba1.size)
            have hgo : wr.heap.size ≤ o := by have := ba1.size; omega
            have hr2 := own_at hr1 fun b f => b2.block b (World.ownsRow.lt hr1 b f).2
            refine hK.out _ _ (fun _ => trivial) ?_
            clear hK KK hX2 s2 hn_ b2
            try simp only [Act.put, List.setIfInBounds_toArray, List.set_cons_zero, List.set_cons_succ]
            refine twoT (i := 8) (j := 9) (by kernel_rfl) rfl rfl (by rfl) (by rfl) (fun KK hK => ?_) (fun KK hK => ?_)
            ·obtain ⟨v8, W3, hX3, hr3, hg3⟩ := run_pushAll rowK 29 _ _ hr2 _ _ _ _ (HAK.out.below ba2) (by simp; omega) ba2.size
             obtain ⟨P8, d8, e8, -⟩ := hr3.form
             obtain ⟨n8, hn8⟩ : ∃ n, ([] ++ (fs2.take h1).drop l1).length = n := ⟨_, rfl⟩
             rw [hn8] at e8
             subst e8
             have ba3 := ba2.trans ((Below.refl _ W2).grown hg3 ba2.size fun k hk => (World.ownsRow.lt hr2 k hk).1)
             have et3 := shc_push et2 hr2 hg3
             refine Lib.wp_append_run (P := Try.prog) W2 (.tmp 97) (.tmp 104) 29 29 rfl _ _ rfl rfl _ _ hX3 ?_
             refine hK.out _ _ (fun _ => trivial) ?_
             clear hK KK hX3 hg3 hn8
             simp only [Act.put, List.getElem_toArray, List.getElem_cons_succ, List.getElem_cons_zero, List.setIfInBounds_toArray, List.set_cons_zero, List.set_cons_succ]
             refine oneT (i := 9) (by kernel_rfl) rfl (by rfl) (fun KK hK => ?_)
             (try go_simp)
             obtain ⟨W4, D, hX4, hn_, b4, eD4, s4⟩ := one_new W3 #[] shT
             (try rw [hX4]); (try rw [hn_])
             have ba4 := ba3.trans (b4.mono ba3.size)
             have gD : wr.heap.size ≤ D := by have := ba3.size; omega
             have nDo : D ≠ o := by have := (Array.getElem?_eq_some_iff.1 et3).1; omega
             have hr4 := own_at hr3 fun b f => b4.block b (World.ownsRow.lt hr3 b f).2
             have et4 := et3.below b4
             refine hK.out _ _ (fun _ => trivial) ?_
             clear hK KK hX4 s4 hn_ b4
             try simp only [Act.put, List.setIfInBounds_toArray, List.set_cons_zero, List.set_cons_succ]
             refine oneT (i := 16) (by kernel_rfl) rfl (by rfl) (fun KK hK => ?_)
             obtain ⟨v16, W5, hX5, hk5, hg5, hq, C16, c16, e16⟩ := (ShR.of_block (Y := Y) eD4).push (m := h1 - i2') (k := c5 - i2') (HKM.out _ ba4) HLM.out (by simp; omega) (fun b f g => by have f2 : D = b := Option.some.inj (show some D = some b from f); have := HYL.out b g; omega) (fun b f => Nat.lt_of_lt_of_le (HYL.out b f) ba4.size)
             obtain ⟨n16, hn16⟩ : ∃ n, ([] : List Sh).length + (h1 - i2') = n := ⟨_, rfl⟩
             rw [hn16] at e16
             subst e16
             have ba5 := ba4.trans ((Below.refl _ W4).grown hg5 ba4.size fun k f => by have f2 : D = k := Option.some.inj (show some D = some k from f); omega)
             have hr5 := row_past hr4 eD4 hg5
             have hCw : ∀ b, (Value.slice C16 n16 c16).ownBlock = some b → wr.heap.size ≤ b := fun b f => by rcases hq b f with g | g; (have f2 : D = b := Option.some.inj (show some D = some b from g)); omega; have := ba4.size; omega
             have hCo : ∀ b, (Value.slice C16 n16 c16).ownBlock = some b → wr.heap.size ≤ b ∧ b ≠ o := fun b f => ⟨hCw b f, by have := (Array.getElem?_eq_some_iff.1 et4).1; rcases hq b f with g | g; (have f2 : D = b := Option.some.inj (show some D = some b from g)); omega; omega⟩
             have et5 := et4.at_ (hg5.block o (Array.getElem?_eq_some_iff.1 et4).1 fun f2 => nDo (Option.some.inj (show some D = some o from f2.symm)))
             refine Lib.wp_append_run (P := Try.prog) W4 (.tmp 106) (.tmp 112) 91 91 rfl _ _ rfl rfl _ _ hX5 ?_
             refine hK.out _ _ (fun _ => trivial) ?_
             clear hK KK hX5 hg5 hn16 hq
             simp only [Act.put, List.getElem_toArray, List.getElem_cons_succ, List.getElem_cons_zero, List.setIfInBounds_toArray, List.set_cons_zero, List.set_cons_succ]
             have hC : True := trivial
             refine takeX 17 114 (v := ?_) rfl rfl (by kernel_rfl) (by kernel_rfl) (by kernel_rfl) (by kernel_rfl) (by kernel_rfl) (fun _ _ _ _ h => h) hC (by rfl) ?_ ?_
             rotate_left
             ·intro w hSw; (try dsimp only at hSw); go_simp; try (with_reducible rfl)
             simp only [List.setIfInBounds_toArray, List.set_cons_zero, List.set_cons_succ]
             clear hC
             have HE := Lib.hid ((kid_end et5 hr5 hk5 ba5 hgo hCo HYL.out).node HNE.out)
             rw [HGR.out] at HE
             have HT3 := Lib.hid et5
             clear ba0 ba1 ba2 ba3 ba4 ba5 et5 hr5 hk5 hgo hCo
             obtain ⟨c0', c1', c2', c3', c4'⟩ := HT3.out.cells
             obtain ⟨f0', f1', f2', f3', f4'⟩ := HT3.out.frees
             refine oneT (i := 19) (by kernel_rfl) rfl (by rfl) (fun KK hK => ?_)
             go_simp
             refine hK.out _ _ (fun h => absurd h (by decide)) ?_
             clear hK KK
             try simp only [Act.put, List.setIfInBounds_toArray, List.set_cons_zero, List.set_cons_succ]
             refine doneT (by kernel_rfl) ?_
             go_wp2_with fail
             go_meet
             exact ⟨o, rfl, HE.out⟩
            ·(try go_simp)
             obtain ⟨W3, D, hX3, hn_, b3, eD3, s3⟩ := one_new W2 #[] shT
             (try rw [hX3]); (try rw [hn_])
             have ba3 := ba2.trans (b3.mono ba2.size)
             have gD : wr.heap.size ≤ D := by have := ba2.size; omega
             have nDo : D ≠ o := by have := (Array.getElem?_eq_some_iff.1 et2).1; omega
             have hr3 := own_at hr2 fun b f => b3.block b (World.ownsRow.lt hr2 b f).2
             have et3 := et2.below b3
             refine hK.out _ _ (fun _ => trivial) ?_
             clear hK KK hX3 s3 hn_ b3
             try simp only [Act.put, List.setIfInBounds_toArray, List.set_cons_zero, List.set_cons_succ]
             refine oneT (i := 8) (by kernel_rfl) rfl (by rfl) (fun KK hK => ?_)
             obtain ⟨v8, W4, hX4, hr4, hg4⟩ := run_pushAll rowK 29 _ _ hr3 _ _ _ _ (HAK.out.below ba3) (by simp; omega) ba3.size
             obtain ⟨P8, d8, e8, -⟩ := hr4.form
             obtain ⟨n8, hn8⟩ : ∃ n, ([] ++ (fs2.take h1).drop l1).length = n := ⟨_, rfl⟩
             rw [hn8] at e8
             subst e8
             have ba4 := ba3.trans ((Below.refl _ W3).grown hg4 ba3.size fun k hk => (World.ownsRow.lt hr3 k hk).1)
             have eD4 := blk_push eD3 hr3 hg4
             have et4 := shc_push et3 hr3 hg4
             refine Lib.wp_append_run (P := Try.prog) W3 (.tmp 97) (.tmp 104) 29 29 rfl _ _ rfl rfl _ _ hX4 ?_
             refine hK.out _ _ (fun _ => trivial) ?_
             clear hK KK hX4 hg4 hn8
             simp only [Act.put, List.getElem_toArray, List.getElem_cons_succ, List.getElem_cons_zero, List.setIfInBounds_toArray, List.set_cons_zero, List.set_cons_succ]
             refine oneT (i := 16) (by kernel_rfl) rfl (by rfl) (fun KK hK => ?_)
             obtain ⟨v16, W5, hX5, hk5, hg5, hq, C16, c16, e16⟩ := (ShR.of_block (Y := Y) eD4).push (m := h1 - i2') (k := c5 - i2') (HKM.out _ ba4) HLM.out (by simp; omega) (fun b f g => by have f2 : D = b := Option.some.inj (show some D = some b from f); have := HYL.out b g; omega) (fun b f => Nat.lt_of_lt_of_le (HYL.out b f) ba4.size)
             obtain ⟨n16, hn16⟩ : ∃ n, ([] : List Sh).length + (h1 - i2') = n := ⟨_, rfl⟩
             rw [hn16] at e16
             subst e16
             have ba5 := ba4.trans ((Below.refl _ W4).grown hg5 ba4.size fun k f => by have f2 : D = k := Option.some.inj (show some D = some k from f); omega)
             have hr5 := row_past hr4 eD4 hg5
             have hCw : ∀ b, (Value.slice C16 n16 c16).ownBlock = some b → wr.heap.size ≤ b := fun b f => by rcases hq b f with g | g; (have f2 : D = b := Option.some.inj (show some D = some b from g)); omega; have := ba4.size; omega
             have hCo : ∀ b, (Value.slice C16 n16 c16).ownBlock = some b → wr.heap.size ≤ b ∧ b ≠ o := fun b f => ⟨hCw b f, by have := (Array.getElem?_eq_some_iff.1 et4).1; rcases hq b f with g | g; (have f2 : D = b := Option.some.inj (show some D = some b from g)); omega; omega⟩
             have et5 := et4.at_ (hg5.block o (Array.getElem?_eq_some_iff.1 et4).1 fun f2 => nDo (Option.some.inj (show some D = some o from f2.symm)))
             refine Lib.wp_append_run (P := Try.prog) W4 (.tmp 106) (.tmp 112) 91 91 rfl _ _ rfl rfl _ _ hX5 ?_
             refine hK.out _ _ (fun _ => trivial) ?_
             clear hK KK hX5 hg5 hn16 hq
             simp only [Act.put, List.getElem_toArray, List.getElem_cons_succ, List.getElem_cons_zero, List.setIfInBounds_toArray, List.set_cons_zero, List.set_cons_succ]
             have hC : True := trivial
             refine takeX 17 114 (v := ?_) rfl rfl (by kernel_rfl) (by kernel_rfl) (by kernel_rfl) (by kernel_rfl) (by kernel_rfl) (fun _ _ _ _ h => h) hC (by rfl) ?_ ?_
             rotate_left
             ·intro w hSw; (try dsimp only at hSw); go_simp; try (with_reducible rfl)
             simp only [List.setIfInBounds_toArray, List.set_cons_zero, List.set_cons_succ]
             clear hC
             have HE := Lib.hid ((kid_end et5 hr5 hk5 ba5 hgo hCo HYL.out).node HNE.out)
             rw [HGR.out] at HE
             have HT3 := Lib.hid et5
             clear ba0 ba1 ba2 ba3 ba4 ba5 et5 hr5 hk5 hgo hCo
             obtain ⟨c0', c1', c2', c3', c4'⟩ := HT3.out.cells
             obtain ⟨f0', f1', f2', f3', f4'⟩ := HT3.out.frees
             refine oneT (i := 19) (by kernel_rfl) rfl (by rfl) (fun KK hK => ?_)
             go_simp
             refine hK.out _ _ (fun h => absurd h (by decide)) ?_
             clear hK KK
             try simp only [Act.put, List.setIfInBounds_toArray, List.set_cons_zero, List.set_cons_succ]
             refine doneT (by kernel_rfl) ?_
             go_wp2_with fail
             go_meet
             exact ⟨o, rfl, HE.out⟩
          ·(try go_simp)
           obtain ⟨W1, D, hX1, hn_, b1, eD1, s1⟩ := one_new W0 #[] shT
           (try rw [hX1]); (try rw [hn_])
           have ba1 := ba0.trans (b1.mono ba0.size)
           have gD : wr.heap.size ≤ D := by have := ba0.size; omega
           refine hK.out _ _ (fun _ => trivial) ?_
           clear hK KK hX1 s1 hn_ b1
           try simp only [Act.put, List.setIfInBounds_toArray, List.set_cons_zero, List.set_cons_succ]
           refine twoT (i := 0) (j := 18) (by kernel_rfl) rfl rfl (by rfl) (by rfl) (fun KK hK => ?_) (fun KK hK => ?_)
           ·(try go_simp)
            obtain ⟨W2, K, hX2, hn_, b2, eK, s2⟩ := one_new W1 #[] i6T
            (try rw [hX2]); (try rw [hn_])
            have ba2 := ba1.trans (b2.mono ba1.size)
            have hr2 : Row i6T wr.heap.size W2 (.slice (some ⟨K, 0, none⟩) 0 0) [] := Row.of_block eK (by have := ba1.size; omega)
            have eD2 := blk_below eD1 b2
            refine hK.out _ _ (fun _ => trivial) ?_
            clear hK KK eK hX2 s2 hn_ b2
            try simp only [Act.put, List.setIfInBounds_toArray, List.set_cons_zero, List.set_cons_succ]
            refine twoT (i := 8) (j := 18) (by kernel_rfl) rfl rfl (by rfl) (by rfl) (fun KK hK => ?_) (fun KK hK => ?_)
            ·obtain ⟨v8, W3, hX3, hr3, hg3⟩ := run_pushAll rowK 29 _ _ hr2 _ _ _ _ (HAK.out.below ba2) (by simp; omega) ba2.size
             obtain ⟨P8, d8, e8, -⟩ := hr3.form
             obtain ⟨n8, hn8⟩ : ∃ n, ([] ++ (fs2.take h1).drop l1).length = n := ⟨_, rfl⟩
             rw [hn8] at e8
             subst e8
             have ba3 := ba2.trans ((Below.refl _ W2).grown hg3 ba2.size fun k hk => (World.ownsRow.lt hr2 k hk).1)
             have eD3 := blk_push eD2 hr2 hg3
             refine Lib.wp_append_run (P := Try.prog) W2 (.tmp 97) (.tmp 104) 29 29 rfl _ _ rfl rfl _ _ hX3 ?_
             refine hK.out _ _ (fun _ => trivial) ?_
             clear hK KK hX3 hg3 hn8
             simp only [Act.put, List.getElem_toArray, List.getElem_cons_succ, List.getElem_cons_zero, List.setIfInBounds_toArray, List.set_cons_zero, List.set_cons_succ]
             refine twoT (i := 16) (j := 18) (by kernel_rfl) rfl rfl (by rfl) (by rfl) (fun KK hK => ?_) (fun KK hK => ?_)
             ·obtain ⟨v16, W4, hX4, hk4, hg4, hq, C16, c16, e16⟩ := (ShR.of_block (Y := Y) eD3).push (m := h1 - i2') (k := c5 - i2') (HKM.out _ ba3) HLM.out (by simp; omega) (fun b f g => by have f2 : D = b := Option.some.inj (show some D = some b from f); have := HYL.out b g; omega) (fun b f => Nat.lt_of_lt_of_le (HYL.out b f) ba3.size)
              obtain ⟨n16, hn16⟩ : ∃ n, ([] : List Sh).length + (h1 - i2') = n := ⟨_, rfl⟩
              rw [hn16] at e16
              subst e16
              have ba4 := ba3.trans ((Below.refl _ W3).grown hg4 ba3.size fun k f => by have f2 : D = k := Option.some.inj (show some D = some k from f); omega)
              have hr4 := row_past hr3 eD3 hg4
              have hCw : ∀ b, (Value.slice C16 n16 c16).ownBlock = some b → wr.heap.size ≤ b := fun b f => by rcases hq b f with g | g; (have f2 : D = b := Option.some.inj (show some D = some b from g)); omega; have := ba3.size; omega
              refine Lib.wp_append_run (P := Try.prog) W3 (.tmp 106) (.tmp 112) 91 91 rfl _ _ rfl rfl _ _ hX4 ?_
              refine hK.out _ _ (fun _ => trivial) ?_
              clear hK KK hX4 hg4 hn16 hq
              simp only [Act.put, List.getElem_toArray, List.getElem_cons_succ, List.getElem_cons_zero, List.setIfInBounds_toArray, List.set_cons_zero, List.set_cons_succ]
              have hC : True := trivial
              refine takeX 17 114 (v := ?_) rfl rfl (by kernel_rfl) (by kernel_rfl) (by kernel_rfl) (by kernel_rfl) (by kernel_rfl) (fun _ _ _ _ h => h) hC (by rfl) ?_ ?_
              rotate_left
              ·intro w hSw; (try dsimp only at hSw); go_simp; try (with_reducible rfl)
              simp only [List.setIfInBounds_toArray, List.set_cons_zero, List.set_cons_succ]
              clear hC
              refine oneT (i := 18) (by kernel_rfl) rfl (by rfl) (fun KK hK => ?_)
              (try go_simp)
              obtain ⟨W5, o, hX5, hn_, b5, et5, s5⟩ := Shc.new W4 (.bool false) (.bool false) (.slice none 0 0) (.slice none 0 0) (.slice none 0 0)
              (try rw [hX5]); (try rw [hn_])
              have ba5 := ba4.trans (b5.mono ba4.size)
              have hgo : wr.heap.size ≤ o := by have := ba4.size; omega
              have hCo : ∀ b, (Value.slice C16 n16 c16).ownBlock = some b → wr.heap.size ≤ b ∧ b ≠ o := fun b f => ⟨hCw b f, by have := hk4.lt f; omega⟩
              have hr5 := own_at hr4 fun b f => b5.block b (World.ownsRow.lt hr4 b f).2
              have hk5 := hk4.keep (fun b f => b5.block b (Nat.lt_of_lt_of_le (HYL.out b f) ba4.size)) (fun b f => b5.block b (hk4.lt f)) fun b f => f
              refine hK.out _ _ (fun _ => trivial) ?_
              clear hK KK hX5 s5 hn_ b5
              try simp only [Act.put, List.setIfInBounds_toArray, List.set_cons_zero, List.set_cons_succ]
              have HE := Lib.hid ((kid_end et5 hr5 hk5 ba5 hgo hCo HYL.out).node HNE.out)
              rw [HGR.out] at HE
              have HT3 := Lib.hid et5
              clear ba0 ba1 ba2 ba3 ba4 ba5 et5 hr5 hk5 hgo hCo
              obtain ⟨c0', c1', c2', c3', c4'⟩ := HT3.out.cells
              obtain ⟨f0', f1', f2', f3', f4'⟩ := HT3.out.frees
              refine oneT (i := 19) (by kernel_rfl) rfl (by rfl) (fun KK hK => ?_)
              go_simp
              refine hK.out _ _ (fun h => absurd h (by decide)) ?_
              clear hK KK
              try simp only [Act.put, List.setIfInBounds_toArray, List.set_cons_zero, List.set_cons_succ]
              refine doneT (by kernel_rfl) ?_
              go_wp2_with fail
              go_meet
              exact ⟨o, rfl, HE.out⟩
             ·(try go_simp)
              obtain ⟨W4, o, hX4, hn_, b4, et4, s4⟩ := Shc.new W3 (.bool false) (.bool false) (.slice none 0 0) (.slice none 0 0) (.slice none 0 0)
              (try rw [hX4]); (try rw [hn_])
              have ba4 := ba3.trans (b4.mono ba3.size)
              have hgo : wr.heap.size ≤ o := by have := ba3.size; omega
              have nDo : D ≠ o := by have := (Array.getElem?_eq_some_iff.1 eD3).1; omega
              have hr4 := own_at hr3 fun b f => b4.block b (World.ownsRow.lt hr3 b f).2
              have eD4 := blk_below eD3 b4
              refine hK.out _ _ (fun _ => trivial) ?_
              clear hK KK hX4 s4 hn_ b4
              try simp only [Act.put, List.setIfInBounds_toArray, List.set_cons_zero, List.set_cons_succ]
              refine oneT (i := 16) (by kernel_rfl) rfl (by rfl) (fun KK hK => ?_)
              obtain ⟨v16, W5, hX5, hk5, hg5, hq, C16, c16, e16⟩ := (ShR.of_block (Y := Y) eD4).push (m := h1 - i2') (k := c5 - i2') (HKM.out _ ba4) HLM.out (by simp; omega) (fun b f g => by have f2 : D = b := Option.some.inj (show some D = some b from f); have := HYL.out b g; omega) (fun b f => Nat.lt_of_lt_of_le (HYL.out b f) ba4.size)
              obtain ⟨n16, hn16⟩ : ∃ n, ([] : List Sh).length + (h1 - i2') = n := ⟨_, rfl⟩
              rw [hn16] at e16
              subst e16
              have ba5 := ba4.trans ((Below.refl _ W4).grown hg5 ba4.size fun k f => by have f2 : D = k := Option.some.inj (show some D = some k from f); omega)
              have hr5 := row_past hr4 eD4 hg5
              have hCw : ∀ b, (Value.slice C16 n16 c16).ownBlock = some b → wr.heap.size ≤ b := fun b f => by rcases hq b f with g | g; (have f2 : D = b := Option.some.inj (show some D = some b from g)); omega; have := ba4.size; omega
              have hCo : ∀ b, (Value.slice C16 n16 c16).ownBlock = some b → wr.heap.size ≤ b ∧ b ≠ o := fun b f => ⟨hCw b f, by have := (Array.getElem?_eq_some_iff.1 et4).1; rcases hq b f with g | g; (have f2 : D = b := Option.some.inj (show some D = some b from g)); omega; omega⟩
              have et5 := et4.at_ (hg5.block o (Array.getElem?_eq_some_iff.1 et4).1 fun f2 => nDo (Option.some.inj (show some D = some o from f2.symm)))
              refine Lib.wp_append_run (P := Try.prog) W4 (.tmp 106) (.tmp 112) 91 91 rfl _ _ rfl rfl _ _ hX5 ?_
              refine hK.out _ _ (fun _ => trivial) ?_
              clear hK KK hX5 hg5 hn16 hq
              simp only [Act.put, List.getElem_toArray, List.getElem_cons_succ, List.getElem_cons_zero, List.setIfInBounds_toArray, List.set_cons_zero, List.set_cons_succ]
              have hC : True := trivial
              refine takeX 17 114 (v := ?_) rfl rfl (by kernel_rfl) (by kernel_rfl) (by kernel_rfl) (by kernel_rfl) (by kernel_rfl) (fun _ _ _ _ h => h) hC (by rfl) ?_ ?_
              rotate_left
              ·intro w hSw; (try dsimp only at hSw); go_simp; try (with_reducible rfl)
              simp only [List.setIfInBounds_toArray, List.set_cons_zero, List.set_cons_succ]
              clear hC
              have HE := Lib.hid ((kid_end et5 hr5 hk5 ba5 hgo hCo HYL.out).node HNE.out)
              rw [HGR.out] at HE
              have HT3 := Lib.hid et5
              clear ba0 ba1 ba2 ba3 ba4 ba5 et5 hr5 hk5 hgo hCo
              obtain ⟨c0', c1', c2', c3', c4'⟩ := HT3.out.cells
              obtain ⟨f0', f1', f2', f3', f4'⟩ := HT3.out.frees
              refine oneT (i := 19) (by kernel_rfl) rfl (by rfl) (fun KK hK => ?_)
              go_simp
              refine hK.out _ _ (fun h => absurd h (by decide)) ?_
              clear hK KK
              try simp only [Act.put, List.setIfInBounds_toArray, List.set_cons_zero, List.set_cons_succ]
              refine doneT (by kernel_rfl) ?_
              go_wp2_with fail
              go_meet
              exact ⟨o, rfl, HE.out⟩
            ·(try go_simp)
             obtain ⟨W3, o, hX3, hn_, b3, et3, s3⟩ := Shc.new W2 (.bool false) (.bool false) (.slice none 0 0) (.slice none 0 0) (.slice none 0 0)
             (try rw [hX3]); (try rw [hn_])
             have ba3 := ba2.trans (b3.mono ba2.size)
             have hgo : wr.heap.size ≤ o := by have := ba2.size; omega
             have nDo : D ≠ o := by have := (Array.getElem?_eq_some_iff.1 eD2).1; omega
             have hr3 := own_at hr2 fun b f => b3.block b (World.ownsRow.lt hr2 b f).2
             have eD3 := blk_below eD2 b3
             refine hK.out _ _ (fun _ => trivial) ?_
             clear hK KK hX3 s3 hn_ b3
             try simp only [Act.put, List.setIfInBounds_toArray, List.set_cons_zero, List.set_cons_succ]
             refine oneT (i := 8) (by kernel_rfl) rfl (by rfl) (fun KK hK => ?_)
             obtain ⟨v8, W4, hX4, hr4, hg4⟩ := run_pushAll rowK 29 _ _ hr3 _ _ _ _ (HAK.out.below ba3) (by simp; omega) ba3.size
             obtain ⟨P8, d8, e8, -⟩ := hr4.form
             obtain ⟨n8, hn8⟩ : ∃ n, ([] ++ (fs2.take h1).drop l1).length = n := ⟨_, rfl⟩
             rw [hn8] at e8
             subst e8
             have ba4 := ba3.trans ((Below.refl _ W3).grown hg4 ba3.size fun k hk => (World.ownsRow.lt hr3 k hk).1)
             have eD4 := blk_push eD3 hr3 hg4
             have et4 := shc_push et3 hr3 hg4
             refine Lib.wp_append_run (P := Try.prog) W3 (.tmp 97) (.tmp 104) 29 29 rfl _ _ rfl rfl _ _ hX4 ?_
             refine hK.out _ _ (fun _ => trivial) ?_
             clear hK KK hX4 hg4 hn8
             simp only [Act.put, List.getElem_toArray, List.getElem_cons_succ, List.getElem_cons_zero, List.setIfInBounds_toArray, List.set_cons_zero, List.set_cons_succ]
             refine oneT (i := 16) (by kernel_rfl) rfl (by rfl) (fun KK hK => ?_)
             obtain ⟨v16, W5, hX5, hk5, hg5, hq, C16, c16, e16⟩ := (ShR.of_block (Y := Y) eD4).push (m := h1 - i2') (k := c5 - i2') (HKM.out _ ba4) HLM.out (by simp; omega) (fun b f g => by have f2 : D = b := Option.some.inj (show some D = some b from f); have := HYL.out b g; omega) (fun b f => Nat.lt_of_lt_of_le (HYL.out b f) ba4.size)
             obtain ⟨n16, hn16⟩ : ∃ n, ([] : List Sh).length + (h1 - i2') = n := ⟨_, rfl⟩
             rw [hn16] at e16
             subst e16
             have ba5 := ba4.trans ((Below.refl _ W4).grown hg5 ba4.size fun k f => by have f2 : D = k := Option.some.inj (show some D = some k from f); omega)
             have hr5 := row_past hr4 eD4 hg5
             have hCw : ∀ b, (Value.slice C16 n16 c16).ownBlock = some b → wr.heap.size ≤ b := fun b f => by rcases hq b f with g | g; (have f2 : D = b := Option.some.inj (show some D = some b from g)); omega; have := ba4.size; omega
             have hCo : ∀ b, (Value.slice C16 n16 c16).ownBlock = some b → wr.heap.size ≤ b ∧ b ≠ o := fun b f => ⟨hCw b f, by have := (Array.getElem?_eq_some_iff.1 et4).1; rcases hq b f with g | g; (have f2 : D = b := Option.some.inj (show some D = some b from g)); omega; omega⟩
             have et5 := et4.at_ (hg5.block o (Array.getElem?_eq_some_iff.1 et4).1 fun f2 => nDo (Option.some.inj (show some D = some o from f2.symm)))
             refine Lib.wp_append_run (P := Try.prog) W4 (.tmp 106) (.tmp 112) 91 91 rfl _ _ rfl rfl _ _ hX5 ?_
             refine hK.out _ _ (fun _ => trivial) ?_
             clear hK KK hX5 hg5 hn16 hq
             simp only [Act.put, List.getElem_toArray, List.getElem_cons_succ, List.getElem_cons_zero, List.setIfInBounds_toArray, List.set_cons_zero, List.set_cons_succ]
             have hC : True := trivial
             refine takeX 17 114 (v := ?_) rfl rfl (by kernel_rfl) (by kernel_rfl) (by kernel_rfl) (by kernel_rfl) (by kernel_rfl) (fun _ _ _ _ h => h) hC (by rfl) ?_ ?_
             rotate_left
             ·intro w hSw; (try dsimp only at hSw); go_simp; try (with_reducible rfl)
             simp only [List.setIfInBounds_toArray, List.set_cons_zero, List.set_cons_succ]
             clear hC
             have HE := Lib.hid ((kid_end et5 hr5 hk5 ba5 hgo hCo HYL.out).node HNE.out)
             rw [HGR.out] at HE
             have HT3 := Lib.hid et5
             clear ba0 ba1 ba2 ba3 ba4 ba5 et5 hr5 hk5 hgo hCo
             obtain ⟨c0', c1', c2', c3', c4'⟩ := HT3.out.cells
             obtain ⟨f0', f1', f2', f3', f4'⟩ := HT3.out.frees
             refine oneT (i := 19) (by kernel_rfl) rfl (by rfl) (fun KK hK => ?_)
             go_simp
             refine hK.out _ _ (fun h => absurd h (by decide)) ?_
             clear hK KK
             try simp only [Act.put, List.setIfInBounds_toArray, List.set_cons_zero, List.set_cons_succ]
             refine doneT (by kernel_rfl) ?_
             go_wp2_with fail
             go_meet
             exact ⟨o, rfl, HE.out⟩
           ·(try go_simp)
            obtain ⟨W2, o, hX2, hn_, b2, et2, s2⟩ := Shc.new W1 (.bool false) (.bool false) (.slice none 0 0) (.slice none 0 0) (.slice none 0 0)
            (try rw [hX2]); (try rw [hn_])
            have ba2 := ba1.trans (b2.mono ba1.size)
            have hgo : wr.heap.size ≤ o := by have := ba1.size; omega
            have nDo : D ≠ o := by have := (Array.getElem?_eq_some_iff.1 eD1).1; omega
            have eD2 := blk_below eD1 b2
            refine hK.out _ _ (fun _ => trivial) ?_
            clear hK KK hX2 s2 hn_ b2
            try simp only [Act.put, List.setIfInBounds_toArray, List.set_cons_zero, List.set_cons_succ]
            refine oneT (i := 0) (by kernel_rfl) rfl (by rfl) (fun KK hK => ?_)
            (try go_simp)
            obtain ⟨W3, K, hX3, hn_, b3, eK, s3⟩ := one_new W2 #[] i6T
            (try rw [hX3]); (try rw [hn_])
            have ba3 := ba2.trans (b3.mono ba2.size)
            have hr3 : Row i6T wr.heap.size W3 (.slice (some ⟨K, 0, none⟩) 0 0) [] := Row.of_block eK (by have := ba2.size; omega)
            have eD3 := blk_below eD2 b3
            have et3 := et2.below b3
            refine hK.out _ _ (fun _ => trivial) ?_
            clear hK KK eK hX3 s3 hn_ b3
            try simp only [Act.put, List.setIfInBounds_toArray, List.set_cons_zero, List.set_cons_succ]
            refine oneT (i := 8) (by kernel_rfl) rfl (by rfl) (fun KK hK => ?_)
            obtain ⟨v8, W4, hX4, hr4, hg4⟩ := run_pushAll rowK 29 _ _ hr3 _ _ _ _ (HAK.out.below ba3) (by simp; omega) ba3.size
            obtain ⟨P8, d8, e8, -⟩ := hr4.form
            obtain ⟨n8, hn8⟩ : ∃ n, ([] ++ (fs2.take h1).drop l1).length = n := ⟨_, rfl⟩
            rw [hn8] at e8
            subst e8
            have ba4 := ba3.trans ((Below.refl _ W3).grown hg4 ba3.size fun k hk => (World.ownsRow.lt hr3 k hk).1)
            have eD4 := blk_push eD3 hr3 hg4
            have et4 := shc_push et3 hr3 hg4
            refine Lib.wp_append_run (P := Try.prog) W3 (.tmp 97) (.tmp 104) 29 29 rfl _ _ rfl rfl _ _ hX4 ?_
            refine hK.out _ _ (fun _ => trivial) ?_
            clear hK KK hX4 hg4 hn8
            simp only [Act.put, List.getElem_toArray, List.getElem_cons_succ, List.getElem_cons_zero, List.setIfInBounds_toArray, List.set_cons_zero, List.set_cons_succ]
            refine oneT (i := 16) (by kernel_rfl) rfl (by rfl) (fun KK hK => ?_)
            obtain ⟨v16, W5, hX5, hk5, hg5, hq, C16, c16, e16⟩ := (ShR.of_block (Y := Y) eD4).push (m := h1 - i2') (k := c5 - i2') (HKM.out _ ba4) HLM.out (by simp; omega) (fun b f g => by have f2 : D = b := Option.some.inj (show some D = some b from f); have := HYL.out b g; omega) (fun b f => Nat.lt_of_lt_of_le (HYL.out b f) ba4.size)
            obtain ⟨n16, hn16⟩ : ∃ n, ([] : List Sh).length + (h1 - i2') = n := ⟨_, rfl⟩
            rw [hn16] at e16
            subst e16
            have ba5 := ba4.trans ((Below.refl _ W4).grown hg5 ba4.size fun k f => by have f2 : D = k := Option.some.inj (show some D = some k from f); omega)
            have hr5 := row_past hr4 eD4 hg5
            have hCw : ∀ b, (Value.slice C16 n16 c16).ownBlock = some b → wr.heap.size ≤ b := fun b f => by rcases hq b f with g | g; (have f2 : D = b := Option.some.inj (show some D = some b from g)); omega; have := ba4.size; omega
            have hCo : ∀ b, (Value.slice C16 n16 c16).ownBlock = some b → wr.heap.size ≤ b ∧ b ≠ o := fun b f => ⟨hCw b f, by have := (Array.getElem?_eq_some_iff.1 et4).1; rcases hq b f with g | g; (have f2 : D = b := Option.some.inj (show some D = some b from g)); omega; omega⟩
            have et5 := et4.at_ (hg5.block o (Array.getElem?_eq_some_iff.1 et4).1 fun f2 => nDo (Option.some.inj (show some D = some o from f2.symm)))
            refine Lib.wp_append_run (P := Try.prog) W4 (.tmp 106) (.tmp 112) 91 91 rfl _ _ rfl rfl _ _ hX5 ?_
            refine hK.out _ _ (fun _ => trivial) ?_
            clear hK KK hX5 hg5 hn16 hq
            simp only [Act.put, List.getElem_toArray, List.getElem_cons_succ, List.getElem_cons_zero, List.setIfInBounds_toArray, List.set_cons_zero, List.set_cons_succ]
            have hC : True := trivial
            refine takeX 17 114 (v := ?_) rfl rfl (by kernel_rfl) (by kernel_rfl) (by kernel_rfl) (by kernel_rfl) (by kernel_rfl) (fun _ _ _ _ h => h) hC (by rfl) ?_ ?_
            rotate_left
            ·intro w hSw; (try dsimp only at hSw); go_simp; try (with_reducible rfl)
            simp only [List.setIfInBounds_toArray, List.set_cons_zero, List.set_cons_succ]
            clear hC
            have HE := Lib.hid ((kid_end et5 hr5 hk5 ba5 hgo hCo HYL.out).node HNE.out)
            rw [HGR.out] at HE
            have HT3 := Lib.hid et5
            clear ba0 ba1 ba2 ba3 ba4 ba5 et5 hr5 hk5 hgo hCo
            obtain ⟨c0', c1', c2', c3', c4'⟩ := HT3.out.cells
            obtain ⟨f0', f1', f2', f3', f4'⟩ := HT3.out.frees
            refine oneT (i := 19) (by kernel_rfl) rfl (by rfl) (fun KK hK => ?_)
            go_simp
            refine hK.out _ _ (fun h => absurd h (by decide)) ?_
            clear hK KK
            try simp only [Act.put, List.setIfInBounds_toArray, List.set_cons_zero, List.set_cons_succ]
            refine doneT (by kernel_rfl) ?_
            go_wp2_with fail
            go_meet
            exact ⟨o, rfl, HE.out⟩
          ·(try go_simp)
           obtain ⟨W1, o, hX1, hn_, b1, et1, s1⟩ := Shc.new W0 (.bool false) (.bool false) (.slice none 0 0) (.slice none 0 0) (.slice none 0 0)
           (try rw [hX1]); (try rw [hn_])
           have ba1 := ba0.trans (b1.mono ba0.size)
           have hgo : wr.heap.size ≤ o := by have := ba0.size; omega
           refine hK.out _ _ (fun _ => trivial) ?_
           clear hK KK hX1 s1 hn_ b1
           try simp only [Act.put, List.setIfInBounds_toArray, List.set_cons_zero, List.set_cons_succ]
           refine twoT (i := 0) (j := 9) (by kernel_rfl) rfl rfl (by rfl) (by rfl) (fun KK hK => ?_) (fun KK hK => ?_)
           ·(try go_simp)
            obtain ⟨W2, K, hX2, hn_, b2, eK, s2⟩ := one_new W1 #[] i6T
            (try rw [hX2]); (try rw [hn_])
            have ba2 := ba1.trans (b2.mono ba1.size)
            have hr2 : Row i6T wr.heap.size W2 (.slice (some ⟨K, 0, none⟩) 0 0) [] := Row.of_block eK (by have := ba1.size; omega)
            have et2 := et1.below b2
            refine hK.out _ _ (fun _ => trivial) ?_
            clear hK KK eK hX2 s2 hn_ b2
            try simp only [Act.put, List.setIfInBounds_toArray, List.set_cons_zero, List.set_cons_succ]
            refine twoT (i := 8) (j := 9) (by kernel_rfl) rfl rfl (by rfl) (by rfl) (fun KK hK => ?_) (fun KK hK => ?_)
            ·obtain ⟨v8, W3, hX3, hr3, hg3⟩ := run_pushAll rowK 29 _ _ hr2 _ _ _ _ (HAK.out.below ba2) (by simp; omega) ba2.size
             obtain ⟨P8, d8, e8, -⟩ := hr3.form
             obtain ⟨n8, hn8⟩ : ∃ n, ([] ++ (fs2.take h1).drop l1).length = n := ⟨_, rfl⟩
             rw [hn8] at e8
             subst e8
             have ba3 := ba2.trans ((Below.refl _ W2).grown hg3 ba2.size fun k hk => (World.ownsRow.lt hr2 k hk).1)
             have et3 := shc_push et2 hr2 hg3
             refine Lib.wp_append_run (P := Try.prog) W2 (.tmp 97) (.tmp 104) 29 29 rfl _ _ rfl rfl _ _ hX3 ?_
             refine hK.out _ _ (fun _ => trivial) ?_
             clear hK KK hX3 hg3 hn8
             simp only [Act.put, List.getElem_toArray, List.getElem_cons_succ, List.getElem_cons_zero, List.setIfInBounds_toArray, List.set_cons_zero, List.set_cons_succ]
             refine oneT (i := 9) (by kernel_rfl) rfl (by rfl) (fun KK hK => ?_)
             (try go_simp)
             obtain ⟨W4, D, hX4, hn_, b4, eD4, s4⟩ := one_new W3 #[] shT
             (try rw [hX4]); (try rw [hn_])
             have ba4 := ba3.trans (b4.mono ba3.size)
             have gD : wr.heap.size ≤ D := by have := ba3.size; omega
             have nDo : D ≠ o := by have := (Array.getElem?_eq_some_iff.1 et3).1; omega
             have hr4 := own_at hr3 fun b f => b4.block b (World.ownsRow.lt hr3 b f).2
             have et4 := et3.below b4
             refine hK.out _ _ (fun _ => trivial) ?_
             clear hK KK hX4 s4 hn_ b4
             try simp only [Act.put, List.setIfInBounds_toArray, List.set_cons_zero, List.set_cons_succ]
             refine oneT (i := 16) (by kernel_rfl) rfl (by rfl) (fun KK hK => ?_)
             obtain ⟨v16, W5, hX5, hk5, hg5, hq, C16, c16, e16⟩ := (ShR.of_block (Y := Y) eD4).push (m := h1 - i2') (k := c5 - i2') (HKM.out _ ba4) HLM.out (by simp; omega) (fun b f g => by have f2 : D = b := Option.some.inj (show some D = some b from f); have := HYL.out b g; omega) (fun b f => Nat.lt_of_lt_of_le (HYL.out b f) ba4.size)
             obtain ⟨n16, hn16⟩ : ∃ n, ([] : List Sh).length + (h1 - i2') = n := ⟨_, rfl⟩
             rw [hn16] at e16
             subst e16
             have ba5 := ba4.trans ((Below.refl _ W4).grown hg5 ba4.size fun k f => by have f2 : D = k := Option.some.inj (show some D = some k from f); omega)
             have hr5 := row_past hr4 eD4 hg5
             have hCw : ∀ b, (Value.slice C16 n16 c16).ownBlock = some b → wr.heap.size ≤ b := fun b f => by rcases hq b f with g | g; (have f2 : D = b := Option.some.inj (show some D = some b from g)); omega; have := ba4.size; omega
             have hCo : ∀ b, (Value.slice C16 n16 c16).ownBlock = some b → wr.heap.size ≤ b ∧ b ≠ o := fun b f => ⟨hCw b f, by have := (Array.getElem?_eq_some_iff.1 et4).1; rcases hq b f with g | g; (have f2 : D = b := Option.some.inj (show some D = some b from g)); omega; omega⟩
             have et5 := et4.at_ (hg5.block o (Array.getElem?_eq_some_iff.1 et4).1 fun f2 => nDo (Option.some.inj (show some D = some o from f2.symm)))
             refine Lib.wp_append_run (P := Try.prog) W4 (.tmp 106) (.tmp 112) 91 91 rfl _ _ rfl rfl _ _ hX5 ?_
             refine hK.out _ _ (fun _ => trivial) ?_
             clear hK KK hX5 hg5 hn16 hq
             simp only [Act.put, List.getElem_toArray, List.getElem_cons_succ, List.getElem_cons_zero, List.setIfInBounds_toArray, List.set_cons_zero, List.set_cons_succ]
             have hC : True := trivial
             refine takeX 17 114 (v := ?_) rfl rfl (by kernel_rfl) (by kernel_rfl) (by kernel_rfl) (by kernel_rfl) (by kernel_rfl) (fun _ _ _ _ h => h) hC (by rfl) ?_ ?_
             rotate_left
             ·intro w hSw; (try dsimp only at hSw); go_simp; try (with_reducible rfl)
             simp only [List.setIfInBounds_toArray, List.set_cons_zero, List.set_cons_succ]
             clear hC
             have HE := Lib.hid ((kid_end et5 hr5 hk5 ba5 hgo hCo HYL.out).node HNE.out)
             rw [HGR.out] at HE
             have HT3 := Lib.hid et5
             clear ba0 ba1 ba2 ba3 ba4 ba5 et5 hr5 hk5 hgo hCo
             obtain ⟨c0', c1', c2', c3', c4'⟩ := HT3.out.cells
             obtain ⟨f0', f1', f2', f3', f4'⟩ := HT3.out.frees
             refine oneT (i := 19) (by kernel_rfl) rfl (by rfl) (fun KK hK => ?_)
             go_simp
             refine hK.out _ _ (fun h => absurd h (by decide)) ?_
             clear hK KK
             try simp only [Act.put, List.setIfInBounds_toArray, List.set_cons_zero, List.set_cons_succ]
             refine doneT (by kernel_rfl) ?_
             go_wp2_with fail
             go_meet
             exact ⟨o, rfl, HE.out⟩
            ·(try go_simp)
             obtain ⟨W3, D, hX3, hn_, b3, eD3, s3⟩ := one_new W2 #[] shT
             (try rw [hX3]); (try rw [hn_])
             have ba3 := ba2.trans (b3.mono ba2.size)
             have gD : wr.heap.size ≤ D := by have := ba2.size; omega
             have nDo : D ≠ o := by have := (Array.getElem?_eq_some_iff.1 et2).1; omega
             have hr3 := own_at hr2 fun b f => b3.block b (World.ownsRow.lt hr2 b f).2
             have et3 := et2.below b3
             refine hK.out _ _ (fun _ => trivial) ?_
             clear hK KK hX3 s3 hn_ b3
             try simp only [Act.put, List.setIfInBounds_toArray, List.set_cons_zero, List.set_cons_succ]
             refine oneT (i := 8) (by kernel_rfl) rfl (by rfl) (fun KK hK => ?_)
             obtain ⟨v8, W4, hX4, hr4, hg4⟩ := run_pushAll rowK 29 _ _ hr3 _ _ _ _ (HAK.out.below ba3) (by simp; omega) ba3.size
             obtain ⟨P8, d8, e8, -⟩ := hr4.form
             obtain ⟨n8, hn8⟩ : ∃ n, ([] ++ (fs2.take h1).drop l1).length = n := ⟨_, rfl⟩
             rw [hn8] at e8
             subst e8
             have ba4 := ba3.trans ((Below.refl _ W3).grown hg4 ba3.size fun k hk => (World.ownsRow.lt hr3 k hk).1)
             have eD4 := blk_push eD3 hr3 hg4
             have et4 := shc_push et3 hr3 hg4
             refine Lib.wp_append_run (P := Try.prog) W3 (.tmp 97) (.tmp 104) 29 29 rfl _ _ rfl rfl _ _ hX4 ?_
             refine hK.out _ _ (fun _ => trivial) ?_
             clear hK KK hX4 hg4 hn8
             simp only [Act.put, List.getElem_toArray, List.getElem_cons_succ, List.getElem_cons_zero, List.setIfInBounds_toArray, List.set_cons_zero, List.set_cons_succ]
             refine oneT (i := 16) (by kernel_rfl) rfl (by rfl) (fun KK hK => ?_)
             obtain ⟨v16, W5, hX5, hk5, hg5, hq, C16, c16, e16⟩ := (ShR.of_block (Y := Y) eD4).push (m := h1 - i2') (k := c5 - i2') (HKM.out _ ba4) HLM.out (by simp; omega) (fun b f g => by have f2 : D = b := Option.some.inj (show some D = some b from f); have := HYL.out b g; omega) (fun b f => Nat.lt_of_lt_of_le (HYL.out b f) ba4.size)
             obtain ⟨n16, hn16⟩ : ∃ n, ([] : List Sh).length + (h1 - i2') = n := ⟨_, rfl⟩
             rw [hn16] at e16
             subst e16
             have ba5 := ba4.trans ((Below.refl _ W4).grown hg5 ba4.size fun k f => by have f2 : D = k := Option.some.inj (show some D = some k from f); omega)
             have hr5 := row_past hr4 eD4 hg5
             have hCw : ∀ b, (Value.slice C16 n16 c16).ownBlock = some b → wr.heap.size ≤ b := fun b f => by rcases hq b f with g | g; (have f2 : D = b := Option.some.inj (show some D = some b from g)); omega; have := ba4.size; omega
             have hCo : ∀ b, (Value.slice C16 n16 c16).ownBlock = some b → wr.heap.size ≤ b ∧ b ≠ o := fun b f => ⟨hCw b f, by have := (Array.getElem?_eq_some_iff.1 et4).1; rcases hq b f with g | g; (have f2 : D = b := Option.some.inj (show some D = some b from g)); omega; omega⟩
             have et5 := et4.at_ (hg5.block o (Array.getElem?_eq_some_iff.1 et4).1 fun f2 => nDo (Option.some.inj (show some D = some o from f2.symm)))
             refine Lib.wp_append_run (P := Try.prog) W4 (.tmp 106) (.tmp 112) 91 91 rfl _ _ rfl rfl _ _ hX5 ?_
             refine hK.out _ _ (fun _ => trivial) ?_
             clear hK KK hX5 hg5 hn16 hq
             simp only [Act.put, List.getElem_toArray, List.getElem_cons_succ, List.getElem_cons_zero, List.setIfInBounds_toArray, List.set_cons_zero, List.set_cons_succ]
             have hC : True := trivial
             refine takeX 17 114 (v := ?_) rfl rfl (by kernel_rfl) (by kernel_rfl) (by kernel_rfl) (by kernel_rfl) (by kernel_rfl) (fun _ _ _ _ h => h) hC (by rfl) ?_ ?_
             rotate_left
             ·intro w hSw; (try dsimp only at hSw); go_simp; try (with_reducible rfl)
             simp only [List.setIfInBounds_toArray, List.set_cons_zero, List.set_cons_succ]
             clear hC
             have HE := Lib.hid ((kid_end et5 hr5 hk5 ba5 hgo hCo HYL.out).node HNE.out)
             rw [HGR.out] at HE
             have HT3 := Lib.hid et5
             clear ba0 ba1 ba2 ba3 ba4 ba5 et5 hr5 hk5 hgo hCo
             obtain ⟨c0', c1', c2', c3', c4'⟩ := HT3.out.cells
             obtain ⟨f0', f1', f2', f3', f4'⟩ := HT3.out.frees
             refine oneT (i := 19) (by kernel_rfl) rfl (by rfl) (fun KK hK => ?_)
             go_simp
             refine hK.out _ _ (fun h => absurd h (by decide)) ?_
             clear hK KK
             try simp only [Act.put, List.setIfInBounds_toArray, List.set_cons_zero, List.set_cons_succ]
             refine doneT (by kernel_rfl) ?_
             go_wp2_with fail
             go_meet
             exact ⟨o, rfl, HE.out⟩
           ·(try go_simp)
            obtain ⟨W2, D, hX2, hn_, b2, eD2, s2⟩ := one_new W1 #[] shT
            (try rw [hX2]); (try rw [hn_])
            have ba2 := ba1.trans (b2.mono ba1.size)
            have gD : wr.heap.size ≤ D := by have := ba1.size; omega
            have nDo : D ≠ o := by have := (Array.getElem?_eq_some_iff.1 et1).1; omega
            have et2 := et1.below b2
            refine hK.out _ _ (fun _ => trivial) ?_
            clear hK KK hX2 s2 hn_ b2
            try simp only [Act.put, List.setIfInBounds_toArray, List.set_cons_zero, List.set_cons_succ]
            refine oneT (i := 0) (by kernel_rfl) rfl (by rfl) (fun KK hK => ?_)
            (try go_simp)
            obtain ⟨W3, K, hX3, hn_, b3, eK, s3⟩ := one_new W2 #[] i6T
            (try rw [hX3]); (try rw [hn_])
            have ba3 := ba2.trans (b3.mono ba2.size)
            have hr3 : Row i6T wr.heap.size W3 (.slice (some ⟨K, 0, none⟩) 0 0) [] := Row.of_block eK (by have := ba2.size; omega)
            have eD3 := blk_below eD2 b3
            have et3 := et2.below b3
            refine hK.out _ _ (fun _ => trivial) ?_
            clear hK KK eK hX3 s3 hn_ b3
            try simp only [Act.put, List.setIfInBounds_toArray, List.set_cons_zero, List.set_cons_succ]
            refine oneT (i := 8) (by kernel_rfl) rfl (by rfl) (fun KK hK => ?_)
            obtain ⟨v8, W4, hX4, hr4, hg4⟩ := run_pushAll rowK 29 _ _ hr3 _ _ _ _ (HAK.out.below ba3) (by simp; omega) ba3.size
            obtain ⟨P8, d8, e8, -⟩ := hr4.form
            obtain ⟨n8, hn8⟩ : ∃ n, ([] ++ (fs2.take h1).drop l1).length = n := ⟨_, rfl⟩
            rw [hn8] at e8
            subst e8
            have ba4 := ba3.trans ((Below.refl _ W3).grown hg4 ba3.size fun k hk => (World.ownsRow.lt hr3 k hk).1)
            have eD4 := blk_push eD3 hr3 hg4
            have et4 := shc_push et3 hr3 hg4
            refine Lib.wp_append_run (P := Try.prog) W3 (.tmp 97) (.tmp 104) 29 29 rfl _ _ rfl rfl _ _ hX4 ?_
            refine hK.out _ _ (fun _ => trivial) ?_
            clear hK KK hX4 hg4 hn8
            simp only [Act.put, List.getElem_toArray, List.getElem_cons_succ, List.getElem_cons_zero, List.setIfInBounds_toArray, List.set_cons_zero, List.set_cons_succ]
            refine oneT (i := 16) (by kernel_rfl) rfl (by rfl) (fun KK hK => ?_)
            obtain ⟨v16, W5, hX5, hk5, hg5, hq, C16, c16, e16⟩ := (ShR.of_block (Y := Y) eD4).push (m := h1 - i2') (k := c5 - i2') (HKM.out _ ba4) HLM.out (by simp; omega) (fun b f g => by have f2 : D = b := Option.some.inj (show some D = some b from f); have := HYL.out b g; omega) (fun b f => Nat.lt_of_lt_of_le (HYL.out b f) ba4.size)
            obtain ⟨n16, hn16⟩ : ∃ n, ([] : List Sh).length + (h1 - i2') = n := ⟨_, rfl⟩
            rw [hn16] at e16
            subst e16
            have ba5 := ba4.trans ((Below.refl _ W4).grown hg5 ba4.size fun k f => by have f2 : D = k := Option.some.inj (show some D = some k from f); omega)
            have hr5 := row_past hr4 eD4 hg5
            have hCw : ∀ b, (Value.slice C16 n16 c16).ownBlock = some b → wr.heap.size ≤ b := fun b f => by rcases hq b f with g | g; (have f2 : D = b := Option.some.inj (show some D = some b from g)); omega; have := ba4.size; omega
            have hCo : ∀ b, (Value.slice C16 n16 c16).ownBlock = some b → wr.heap.size ≤ b ∧ b ≠ o := fun b f => ⟨hCw b f, by have := (Array.getElem?_eq_some_iff.1 et4).1; rcases hq b f with g | g; (have f2 : D = b := Option.some.inj (show some D = some b from g)); omega; omega⟩
            have et5 := et4.at_ (hg5.block o (Array.getElem?_eq_some_iff.1 et4).1 fun f2 => nDo (Option.some.inj (show some D = some o from f2.symm)))
            refine Lib.wp_append_run (P := Try.prog) W4 (.tmp 106) (.tmp 112) 91 91 rfl _ _ rfl rfl _ _ hX5 ?_
            refine hK.out _ _ (fun _ => trivial) ?_
            clear hK KK hX5 hg5 hn16 hq
            simp only [Act.put, List.getElem_toArray, List.getElem_cons_succ, List.getElem_cons_zero, List.setIfInBounds_toArray, List.set_cons_zero, List.set_cons_succ]
            have hC : True := trivial
            refine takeX 17 114 (v := ?_) rfl rfl (by kernel_rfl) (by kernel_rfl) (by kernel_rfl) (by kernel_rfl) (by kernel_rfl) (fun _ _ _ _ h => h) hC (by rfl) ?_ ?_
            rotate_left
            ·intro w hSw; (try dsimp only at hSw); go_simp; try (with_reducible rfl)
            simp only [List.setIfInBounds_toArray, List.set_cons_zero, List.set_cons_succ]
            clear hC
            have HE := Lib.hid ((kid_end et5 hr5 hk5 ba5 hgo hCo HYL.out).node HNE.out)
            rw [HGR.out] at HE
            have HT3 := Lib.hid et5
            clear ba0 ba1 ba2 ba3 ba4 ba5 et5 hr5 hk5 hgo hCo
            obtain ⟨c0', c1', c2', c3', c4'⟩ := HT3.out.cells
            obtain ⟨f0', f1', f2', f3', f4'⟩ := HT3.out.frees
            refine oneT (i := 19) (by kernel_rfl) rfl (by rfl) (fun KK hK => ?_)
            go_simp
            refine hK.out _ _ (fun h => absurd h (by decide)) ?_
            clear hK KK
            try simp only [Act.put, List.setIfInBounds_toArray, List.set_cons_zero, List.set_cons_succ]
            refine doneT (by kernel_rfl) ?_
            go_wp2_with fail
            go_meet
            exact ⟨o, rfl, HE.out⟩
         case rest =>
          rename World => wt
          obtain ⟨o, rfl, HN0⟩ := hcut
          clear rAK rKD hwl
          have HBT : Hid (Below wr.heap.size wr wt) := by obtain ⟨_, _, _, _, _, _, _, _, _, _, _, -, -, k, -⟩ := HN0.out; exact k
          have hAT2 := at_walk (c := c4) (HK4.out.below (HBW.out.trans (HBT.out.mono HBW.out.size))) (i := k2) (by have := HLL.out; omega) (by omega)
          have y4 := (HPB.out wt (HBW.out.trans (HBT.out.mono HBW.out.size))).2.2.2.2
          have HG0 : Hid (TgS (grp row2 fs2 i2' n) (grp row2 fs2 i2' n) 0) := by
           have hg := grp_good HRS.out (i := i2') (n := n) hn1 (by have := HRR.out; omega)
           exact ⟨hg.1, hg.2.1, Nat.le_refl _, Nat.le_refl _, grp_ord HOR.out, rfl⟩
          go_wp2_with fail
          refine hAT2.mono ?_
          clear hAT2
          rintro e w2 ⟨z, rfl, hz, rfl⟩
          obtain ⟨za, hza⟩ : ∃ zq, z % 2 = zq := ⟨_, rfl⟩
          have hza1 : (z : Int).tmod 2 = (za : Int) := by rw [Int.tmod_eq_emod_of_nonneg (by omega)]; omega
          have hza2 : (z : Int) % 2 = (za : Int) := by omega
          have hzaw : IntKind.i64.wrap (za : Int) = (za : Int) := IntWalk.i64_in _ (by omega)
          clear hza
          go_upto_if 121 with fail
          clear hza1 hza2 hzaw y4
          go_cut [] from 115 to 136 (fun wx => ∃ s, Hid (NodeV wr Y o s wx ∧ TgS (grp row2 fs2 i2' n) s 2))
          case first =>
           by_cases hz1 : za = 1
           case neg =>
            have hzb : ((za : Int) == 1) = false := by simp; omega
            have hzc : ¬ (za : Int) = 1 := by omega
            go_wp2_with fail
            go_meet
            exact ⟨_, Lib.hid ⟨HN0.out, HG0.out.le (by omega)⟩⟩
           subst hz1
           obtain ⟨W0, hW0, hb0⟩ : ∃ W0 : World, wt.drew = W0 ∧ Below wt.heap.size wt W0 := ⟨_, rfl, (Below.refl _ wt).drew⟩
           have hn0 := HN0.out.below hb0
           obtain ⟨lf1, tg1, A1', n1', c1', B1, m1, e1, C1, p1, q1, hv1, hv2, hv3, hv4, hv5⟩ := id hn0
           obtain ⟨zd, hzd⟩ : ∃ zd, z / 4 = zd := ⟨_, rfl⟩
           have hd1 : (z : Int).tdiv 4 = (zd : Int) := by rw [Int.tdiv_eq_ediv_of_nonneg (by omega)]; omega
           have hd2 : (z : Int) / 4 = (zd : Int) := by omega
           have hdw : IntKind.i64.wrap (zd : Int) = (zd : Int) := IntWalk.i64_in _ (by omega)
           obtain ⟨j, hj⟩ : ∃ j, zd % b = j := ⟨_, rfl⟩
           have hjl : j < b := by rw [← hj]; exact Nat.mod_lt _ (by omega)
           have hj1 : (zd : Int).tmod (b : Int) = (j : Int) := by rw [Int.tmod_eq_emod_of_nonneg (by omega), ← hj]; exact (Int.natCast_emod zd b).symm
           have hj2 : (zd : Int) % (b : Int) = (j : Int) := by rw [← hj]; exact (Int.natCast_emod zd b).symm
           have hjw : IntKind.i64.wrap (j : Int) = (j : Int) := IntWalk.i64_in _ (by omega)
           have hbn : ¬ ((b : Int) = 0) := by omega
           have hbn2 : ¬ b = 0 := by omega
           have HTW := Lib.hid (tagged_walk (j := j) hv2 (fun x f => by
            have h3 := hv3.size
            rcases f.1 with g | g
            ·have := HYL.out x g; omega
            ·exact g.2) HG0.out.wf HG0.out.small (by omega))
           have hvc := hv1.cells
           have HN1 := Lib.hid hn0
           have HV1 := Lib.hid hv1
           clear hn0 hv1 hv2 hv3 hv4 hv5 hzd hj hb0
           go_upto_region 30 with fail
           go_cut [] from 122 to 127 (fun wx => ∃ s, Hid (NodeV wr Y o s wx ∧ TgS (grp row2 fs2 i2' n) s 1))
           case first =>
            refine region_T (fun k => Nat.ble 5 k) (fun w' : World => w'.cell? ⟨o, 0, none⟩ = some (.bool lf1) ∧ w'.cell? ⟨o, 1, none⟩ = some (.bool tg1) ∧ w'.cell? ⟨o, 2, none⟩ = some (.slice A1' n1' c1') ∧ w'.cell? ⟨o, 3, none⟩ = some (.slice B1 m1 e1) ∧ w'.cell? ⟨o, 4, none⟩ = some (.slice C1 p1 q1)) (by kernel_rfl) ?_
            rw [hW0]
            clear hW0
            have hC := hvc
            refine takeX 0 122 (v := ?_) rfl rfl (by kernel_rfl) (by kernel_rfl) (by kernel_rfl) (by kernel_rfl) (by kernel_rfl) (fun _ _ _ _ h => h) hC (by rfl) ?_ ?_
            rotate_left
            ·intro w hSw; (try dsimp only at hSw); go_simp; try (with_reducible rfl)
            simp only [List.setIfInBounds_toArray, List.set_cons_zero, List.set_cons_succ]
            refine takeX 1 123 (v := ?_) rfl rfl (by kernel_rfl) (by kernel_rfl) (by kernel_rfl) (by kernel_rfl) (by kernel_rfl) (fun _ _ _ _ h => h) hC (by rfl) ?_ ?_
            rotate_left
            ·intro w hSw; (try dsimp only at hSw); go_simp; try (with_reducible rfl)
            simp only [List.setIfInBounds_toArray, List.set_cons_zero, List.set_cons_succ]
            refine takeX 2 124 (v := ?_) rfl rfl (by kernel_rfl) (by kernel_rfl) (by kernel_rfl) (by kernel_rfl) (by kernel_rfl) (fun _ _ _ _ h => h) hC (by rfl) ?_ ?_
            rotate_left
            ·intro w hSw; (try dsimp only at hSw); go_simp; try (with_reducible rfl)
            simp only [List.setIfInBounds_toArray, List.set_cons_zero, List.set_cons_succ]
            refine takeX 3 125 (v := ?_) rfl rfl (by kernel_rfl) (by kernel_rfl) (by kernel_rfl) (by kernel_rfl) (by kernel_rfl) (fun _ _ _ _ h => h) hC (by rfl) ?_ ?_
            rotate_left
            ·intro w hSw; (try dsimp only at hSw); go_simp; try (with_reducible rfl)
            simp only [List.setIfInBounds_toArray, List.set_cons_zero, List.set_cons_succ]
            refine takeX 4 126 (v := ?_) rfl rfl (by kernel_rfl) (by kernel_rfl) (by kernel_rfl) (by kernel_rfl) (by kernel_rfl) (fun _ _ _ _ h => h) hC (by rfl) ?_ ?_
            rotate_left
            ·intro w hSw; (try dsimp only at hSw); go_simp; try (with_reducible rfl)
            simp only [List.setIfInBounds_toArray, List.set_cons_zero, List.set_cons_succ]
            clear hC hvc
            refine oneT (i := 5) (by kernel_rfl) rfl (by rfl) (fun KK hK => ?_)
            go_simp
            refine HTW.out.mono ?_
            rintro e w3 ⟨s', v', rfl, hs1, hs2, hs3, hs4, hs5, hs6, hs7⟩
            obtain ⟨lf3, tg3, ps3, ks3, kids3⟩ := s'
            obtain ⟨A3', n3', c3', B3, m3, e3, C3, p3, q3, rfl, -⟩ := id hs1
            have HST := Lib.hid (HN1.out.store hs2 hs1 (fun b f => f))
            have HG1 := Lib.hid (HG0.out.more hs3 hs4 hs5 hs6 hs7)
            obtain ⟨y0', y1', y2', y3', y4'⟩ := (HV1.out.below hs2).cells
            obtain ⟨f0', f1', f2', f3', f4'⟩ := (HV1.out.below hs2).frees
            refine hK.out _ _ (fun h => absurd h (by decide)) ?_
            clear hK KK hs1 hs2 hs3 hs4 hs5 hs6 hs7
            try simp only [Act.put, List.setIfInBounds_toArray, List.set_cons_zero, List.set_cons_succ]
            refine oneT (i := 6) (by kernel_rfl) rfl (by rfl) (fun KK hK => ?_)
            go_simp
            refine hK.out _ _ (fun h => absurd h (by decide)) ?_
            clear hK KK
            try simp only [Act.put, List.setIfInBounds_toArray, List.set_cons_zero, List.set_cons_succ]
            refine doneT (by kernel_rfl) ?_
            go_wp2_with fail
            go_meet
            exact ⟨_, Lib.hid ⟨HST.out, HG1.out⟩⟩
           case rest =>
            rename World => wt2
            obtain ⟨s, HNS⟩ := hcut
            obtain ⟨lf0, tg0, ps0, ks0, kids0⟩ := s
            clear hd1 hd2 hdw hj1 hj2 hjw hvc hW0
            obtain ⟨zc, hzc⟩ : ∃ zq, z % 4 = zq := ⟨_, rfl⟩
            have hzc1 : (z : Int).tmod 4 = (zc : Int) := by rw [Int.tmod_eq_emod_of_nonneg (by omega)]; omega
            have hzc2 : (z : Int) % 4 = (zc : Int) := by omega
            have hzcw : IntKind.i64.wrap (zc : Int) = (zc : Int) := IntWalk.i64_in _ (by omega)
            clear hzc
            by_cases hz3 : zc = 3
            case neg =>
             have hzb : ((zc : Int) == 3) = false := by simp; omega
             have hzd : ¬ (zc : Int) = 3 := by omega
             go_wp2_with fail
             go_meet
             exact ⟨_, Lib.hid ⟨HNS.out.1, HNS.out.2.le (by omega)⟩⟩
            subst hz3
            obtain ⟨W0, hW0, hb0⟩ : ∃ W0 : World, wt2.drew = W0 ∧ Below wt2.heap.size wt2 W0 := ⟨_, rfl, (Below.refl _ wt2).drew⟩
            have hn0 := HNS.out.1.below hb0
            obtain ⟨lf1, tg1, A1', n1', c1', B1, m1, e1, C1, p1, q1, hv1, hv2, hv3, hv4, hv5⟩ := id hn0
            obtain ⟨zd, hzd⟩ : ∃ zd, z / 8 = zd := ⟨_, rfl⟩
            have hd1 : (z : Int).tdiv 8 = (zd : Int) := by rw [Int.tdiv_eq_ediv_of_nonneg (by omega)]; omega
            have hd2 : (z : Int) / 8 = (zd : Int) := by omega
            have hdw : IntKind.i64.wrap (zd : Int) = (zd : Int) := IntWalk.i64_in _ (by omega)
            obtain ⟨j, hj⟩ : ∃ j, zd % b = j := ⟨_, rfl⟩
            have hjl : j < b := by rw [← hj]; exact Nat.mod_lt _ (by omega)
            have hj1 : (zd : Int).tmod (b : Int) = (j : Int) := by rw [Int.tmod_eq_emod_of_nonneg (by omega), ← hj]; exact (Int.natCast_emod zd b).symm
            have hj2 : (zd : Int) % (b : Int) = (j : Int) := by rw [← hj]; exact (Int.natCast_emod zd b).symm
            have hjw : IntKind.i64.wrap (j : Int) = (j : Int) := IntWalk.i64_in _ (by omega)
            have hbn : ¬ ((b : Int) = 0) := by omega
            have hbn2 : ¬ b = 0 := by omega
            have HTW := Lib.hid (tagged_walk (j := j) hv2 (fun x f => by
             have h3 := hv3.size
             rcases f.1 with g | g
             ·have := HYL.out x g; omega
             ·exact g.2) HNS.out.2.wf HNS.out.2.small (by omega))
            have hvc := hv1.cells
            have HN1 := Lib.hid hn0
            have HV1 := Lib.hid hv1
            clear hn0 hv1 hv2 hv3 hv4 hv5 hzd hj hb0
            go_upto_region 32 with fail
            refine region_T (fun k => Nat.ble 5 k) (fun w' : World => w'.cell? ⟨o, 0, none⟩ = some (.bool lf1) ∧ w'.cell? ⟨o, 1, none⟩ = some (.bool tg1) ∧ w'.cell? ⟨o, 2, none⟩ = some (.slice A1' n1' c1') ∧ w'.cell? ⟨o, 3, none⟩ = some (.slice B1 m1 e1) ∧ w'.cell? ⟨o, 4, none⟩ = some (.slice C1 p1 q1)) (by kernel_rfl) ?_
            rw [hW0]
            clear hW0
            have hC := hvc
            refine takeX 0 131 (v := ?_) rfl rfl (by kernel_rfl) (by kernel_rfl) (by kernel_rfl) (by kernel_rfl) (by kernel_rfl) (fun _ _ _ _ h => h) hC (by rfl) ?_ ?_
            rotate_left
            ·intro w hSw; (try dsimp only at hSw); go_simp; try (with_reducible rfl)
            simp only [List.setIfInBounds_toArray, List.set_cons_zero, List.set_cons_succ]
            refine takeX 1 132 (v := ?_) rfl rfl (by kernel_rfl) (by kernel_rfl) (by kernel_rfl) (by kernel_rfl) (by kernel_rfl) (fun _ _ _ _ h => h) hC (by rfl) ?_ ?_
            rotate_left
            ·intro w hSw; (try dsimp only at hSw); go_simp; try (with_reducible rfl)
            simp only [List.setIfInBounds_toArray, List.set_cons_zero, List.set_cons_succ]
            refine takeX 2 133 (v := ?_) rfl rfl (by kernel_rfl) (by kernel_rfl) (by kernel_rfl) (by kernel_rfl) (by kernel_rfl) (fun _ _ _ _ h => h) hC (by rfl) ?_ ?_
            rotate_left
            ·intro w hSw; (try dsimp only at hSw); go_simp; try (with_reducible rfl)
            simp only [List.setIfInBounds_toArray, List.set_cons_zero, List.set_cons_succ]
            refine takeX 3 134 (v := ?_) rfl rfl (by kernel_rfl) (by kernel_rfl) (by kernel_rfl) (by kernel_rfl) (by kernel_rfl) (fun _ _ _ _ h => h) hC (by rfl) ?_ ?_
            rotate_left
            ·intro w hSw; (try dsimp only at hSw); go_simp; try (with_reducible rfl)
            simp only [List.setIfInBounds_toArray, List.set_cons_zero, List.set_cons_succ]
            refine takeX 4 135 (v := ?_) rfl rfl (by kernel_rfl) (by kernel_rfl) (by kernel_rfl) (by kernel_rfl) (by kernel_rfl) (fun _ _ _ _ h => h) hC (by rfl) ?_ ?_
            rotate_left
            ·intro w hSw; (try dsimp only at hSw); go_simp; try (with_reducible rfl)
            simp only [List.setIfInBounds_toArray, List.set_cons_zero, List.set_cons_succ]
            clear hC hvc
            refine oneT (i := 5) (by kernel_rfl) rfl (by rfl) (fun KK hK => ?_)
            go_simp
            refine HTW.out.mono ?_
            rintro e w3 ⟨s', v', rfl, hs1, hs2, hs3, hs4, hs5, hs6, hs7⟩
            obtain ⟨lf3, tg3, ps3, ks3, kids3⟩ := s'
            obtain ⟨A3', n3', c3', B3, m3, e3, C3, p3, q3, rfl, -⟩ := id hs1
            have HST := Lib.hid (HN1.out.store hs2 hs1 (fun b f => f))
            have HG1 := Lib.hid (HNS.out.2.more hs3 hs4 hs5 hs6 hs7)
            obtain ⟨y0', y1', y2', y3', y4'⟩ := (HV1.out.below hs2).cells
            obtain ⟨f0', f1', f2', f3', f4'⟩ := (HV1.out.below hs2).frees
            refine hK.out _ _ (fun h => absurd h (by decide)) ?_
            clear hK KK hs1 hs2 hs3 hs4 hs5 hs6 hs7
            try simp only [Act.put, List.setIfInBounds_toArray, List.set_cons_zero, List.set_cons_succ]
            refine oneT (i := 6) (by kernel_rfl) rfl (by rfl) (fun KK hK => ?_)
            go_simp
            refine hK.out _ _ (fun h => absurd h (by decide)) ?_
            clear hK KK
            try simp only [Act.put, List.setIfInBounds_toArray, List.set_cons_zero, List.set_cons_succ]
            refine doneT (by kernel_rfl) ?_
            go_wp2_with fail
            go_meet
            exact ⟨_, Lib.hid ⟨HST.out, HG1.out⟩⟩
          case rest =>
           rename World => wu
           obtain ⟨s, HNS⟩ := hcut
           skip
           obtain ⟨lf, tg, A, nn, cc, B, mm, ee, C, pp, qq, hv1, hv2, hv3, hv4, hv5⟩ := HNS.out.1
           have hLu : v1.heap.size ≤ wu.heap.size := Nat.le_trans HLw.out hv3.size
           have hU := (HUW.out.below hv3).wide (Y2 := fun b => Y b ∨ wr.heap.size ≤ b ∧ b < wu.heap.size) (fun b f => .inl f) (fun b f => f.imp id fun g => g.1) hv3 HUW.out (fun b f => by
            rcases f with f | f
            ·have h1 := HUW.out.a.rng b f; have h2 := hv3.size; exact ⟨h1.1, by omega⟩
            ·have := HLw.out; exact ⟨by omega, f.2⟩)
           obtain ⟨W0, hW0, ba0⟩ : ∃ W0 : World, wu.drew = W0 ∧ Below wu.heap.size wu W0 := ⟨_, rfl, (Below.refl _ wu).drew⟩
           have bL0 := ba0.mono hLu
           have hU0 := hU.below ba0
           have ho0 := hv1.below ba0
           have hile : i2' < fs2.length := by have := HFR.out; omega
           obtain ⟨zz, hzz⟩ : ∃ z, fs2[i2']? = some z := ⟨_, List.getElem?_eq_getElem hile⟩
           obtain ⟨g6, o6, rfl, -, -⟩ := hU0.a.firsts.sl.at_ (k := i2') hile
           have HZZ := Lib.hid hzz
           have HGO := Lib.hid hv4
           have HV3 := Lib.hid hv3
           have HSV := Lib.hid hv2
           have HLT : Hid (∀ b, ((Y b ∨ wr.heap.size ≤ b ∧ b < wu.heap.size) ∧ b ≠ o) → b < wu.heap.size) := fun b f => by
            rcases f.1 with g | g
            ·have := HYL.out b g; have := hv3.size; omega
            ·exact g.2
           have hupl : up.length ≤ 5000 := by have h1 := HUP.out.le; have h2 := HRS.out.most; rcases HUP.out.cnt with ⟨-, f⟩ | ⟨-, f⟩; (rw [f]; simp); omega
           have hkyl : keys.length ≤ 5000 := by rw [HUP.out.len]; exact hupl
           have HUS : Hid (UpS row2 fs2 (i2' + n) (up ++ [s]) (keys ++ [zz])) := HUP.out.snoc HRS.out hn1 HN3.out (by have := HRR.out; omega) hzz HNS.out.2.wf HNS.out.2.small HNS.out.2.many HNS.out.2.deep
           have HUQ : Hid (UpO row2 fs2 (i2' + n) (up ++ [s]) (keys ++ [zz])) := HUO.out.snoc HUP.out HOR.out hzz HNS.out.2.ord HNS.out.2.all
           have hi6 : (i2' : Int) < (m6 : Int) := by have := HM6.out; omega
           have hi60 : (0 : Int) ≤ (i2' : Int) := by omega
           have hwk : IntKind.i64.wrap ((k2 : Int) + 1) = ((k2 + 1 : Nat) : Int) := by rw [show ((k2 + 1 : Nat) : Int) = (k2 : Int) + 1 from by omega]; exact IntWalk.i64_in _ (by omega)
           clear hU hv1 hv2 hv3 hv4 hv5 hzz
           go_upto_region 33 with fail
           go_cut [12, 13] from 137 to 147 (fun t12 t13 wx => Hid (L3 v1.heap.size V (.slice (some ⟨g5, 0, none⟩) rr c5) (.slice (some ⟨g6, o6, none⟩) m6 c6) row2 fs2 h1 (up ++ [s]) (keys ++ [zz]) t12 t13 wx))
           case first =>
            refine region_T (fun k => Nat.ble 10 k) (fun w' : World => w'.cell? ⟨o, 0, none⟩ = some (.bool lf) ∧ w'.cell? ⟨o, 1, none⟩ = some (.bool tg) ∧ w'.cell? ⟨o, 2, none⟩ = some (.slice A nn cc) ∧ w'.cell? ⟨o, 3, none⟩ = some (.slice B mm ee) ∧ w'.cell? ⟨o, 4, none⟩ = some (.slice C pp qq) ∧ w'.cell? ⟨g6, o6 + i2', none⟩ = some (.int .i64 zz)) (by kernel_rfl) ?_
            rw [hW0]
            clear hW0
            have hC := And.intro ho0.cells.1 (And.intro ho0.cells.2.1 (And.intro ho0.cells.2.2.1 (And.intro ho0.cells.2.2.2.1 (And.intro ho0.cells.2.2.2.2 (sl_get hU0.a.firsts.sl HZZ.out)))))
            refine takeX 0 137 (v := ?_) rfl rfl (by kernel_rfl) (by kernel_rfl) (by kernel_rfl) (by kernel_rfl) (by kernel_rfl) (fun _ _ _ _ h => h) hC (by rfl) ?_ ?_
            rotate_left
            ·intro w hSw; (try dsimp only at hSw); go_simp; try (with_reducible rfl)
            simp only [List.setIfInBounds_toArray, List.set_cons_zero, List.set_cons_succ]
            refine takeX 1 138 (v := ?_) rfl rfl (by kernel_rfl) (by kernel_rfl) (by kernel_rfl) (by kernel_rfl) (by kernel_rfl) (fun _ _ _ _ h => h) hC (by rfl) ?_ ?_
            rotate_left
            ·intro w hSw; (try dsimp only at hSw); go_simp; try (with_reducible rfl)
            simp only [List.setIfInBounds_toArray, List.set_cons_zero, List.set_cons_succ]
            refine takeX 4 141 (v := ?_) rfl rfl (by kernel_rfl) (by kernel_rfl) (by kernel_rfl) (by kernel_rfl) (by kernel_rfl) (fun _ _ _ _ h => h) hC (by rfl) ?_ ?_
            rotate_left
            ·intro w hSw; (try dsimp only at hSw); go_simp; try (with_reducible rfl)
            simp only [List.setIfInBounds_toArray, List.set_cons_zero, List.set_cons_succ]
            refine takeX 5 142 (v := ?_) rfl rfl (by kernel_rfl) (by kernel_rfl) (by kernel_rfl) (by kernel_rfl) (by kernel_rfl) (fun _ _ _ _ h => h) hC (by rfl) ?_ ?_
            rotate_left
            ·intro w hSw; (try dsimp only at hSw); go_simp; try (with_reducible rfl)
            simp only [List.setIfInBounds_toArray, List.set_cons_zero, List.set_cons_succ]
            refine takeX 6 143 (v := ?_) rfl rfl (by kernel_rfl) (by kernel_rfl) (by kernel_rfl) (by kernel_rfl) (by kernel_rfl) (fun _ _ _ _ h => h) hC (by rfl) ?_ ?_
            rotate_left
            ·intro w hSw; (try dsimp only at hSw); go_simp; try (with_reducible rfl)
            simp only [List.setIfInBounds_toArray, List.set_cons_zero, List.set_cons_succ]
            refine takeX 7 144 (v := ?_) rfl rfl (by kernel_rfl) (by kernel_rfl) (by kernel_rfl) (by kernel_rfl) (by kernel_rfl) (fun _ _ _ _ h => h) hC (by rfl) ?_ ?_
            rotate_left
            ·intro w hSw; (try dsimp only at hSw); go_simp; try (with_reducible rfl)
            simp only [List.setIfInBounds_toArray, List.set_cons_zero, List.set_cons_succ]
            refine takeX 8 145 (v := ?_) rfl rfl (by kernel_rfl) (by kernel_rfl) (by kernel_rfl) (by kernel_rfl) (by kernel_rfl) (fun _ _ _ _ h => h) hC (by rfl) ?_ ?_
            rotate_left
            ·intro w hSw; (try dsimp only at hSw); go_simp; try (with_reducible rfl)
            simp only [List.setIfInBounds_toArray, List.set_cons_zero, List.set_cons_succ]
            clear hC
            refine twoT (i := 2) (j := 9) (by kernel_rfl) rfl rfl (by rfl) (by rfl) (fun KK hK => ?_) (fun KK hK => ?_)
            ·(try go_simp)
             obtain ⟨W1, D, hX1, hn_, b1, eD1, s1⟩ := one_new W0 #[.bool lf, .bool tg, .slice A nn cc, .slice B mm ee, .slice C pp qq] shT
             (try rw [hX1]); (try rw [hn_])
             have ba1 := ba0.trans (b1.mono ba0.size)
             have bL1 := bL0.trans (b1.mono (Nat.le_trans hLu bL0.size))
             have hU1 := hU0.below b1
             have ho1 := ho0.below b1
             refine hK.out _ _ (fun _ => ⟨ho1.cells.1, ho1.cells.2.1, ho1.cells.2.2.1, ho1.cells.2.2.2.1, ho1.cells.2.2.2.2, sl_get hU1.a.firsts.sl HZZ.out⟩) ?_
             clear hK KK hX1 s1 hn_ b1
             try simp only [Act.put, List.setIfInBounds_toArray, List.set_cons_zero, List.set_cons_succ]
             refine twoT (i := 3) (j := 9) (by kernel_rfl) rfl rfl (by rfl) (by rfl) (fun KK hK => ?_) (fun KK hK => ?_)
             ·obtain ⟨P3, n3', c3', W2, hX2, hU2, hb2, hg2⟩ := hU1.push5 (s := s) ⟨⟨lf, tg, A, nn, cc, B, mm, ee, C, pp, qq, (cell_of_row _ _ _ _ _ (0, 0) eD1).trans rfl, (cell_of_row _ _ _ _ _ (0, 0) eD1).trans rfl, (cell_of_row _ _ _ _ _ (0, 0) eD1).trans rfl, (cell_of_row _ _ _ _ _ (0, 0) eD1).trans rfl, (cell_of_row _ _ _ _ _ (0, 0) eD1).trans rfl, ShY.keep (fun b f => ba1.block b (HLT.out b f)) (fun b f => f.1) _ _ HSV.out⟩, trivial⟩ hupl (Nat.le_trans hLu bL1.size)
              have bL2 := bL1.trans hb2
              have ho2 := ho1.at_ (hg2.block o (Array.getElem?_eq_some_iff.1 ho1).1 fun f2 => by have := HUW.out.b.rows.lt f2.symm; have := HGO.out; omega)
              refine Lib.wp_append_run (P := Try.prog) W1 (.tmp 137) (.tmp 139) 91 91 rfl _ _ rfl rfl _ _ hX2 ?_
              refine hK.out _ _ (fun _ => ⟨ho2.cells.1, ho2.cells.2.1, ho2.cells.2.2.1, ho2.cells.2.2.2.1, ho2.cells.2.2.2.2, sl_get hU2.a.firsts.sl HZZ.out⟩) ?_
              clear hK KK hX2 hg2 hb2
              simp only [Act.put, List.getElem_toArray, List.getElem_cons_succ, List.getElem_cons_zero, List.setIfInBounds_toArray, List.set_cons_zero, List.set_cons_succ]
              refine oneT (i := 9) (by kernel_rfl) rfl (by rfl) (fun KK hK => ?_)
              (try go_simp)
              obtain ⟨W3, K, hX3, hn_, b3, eK3, s3⟩ := one_new W2 #[.int .i64 zz] i6T
              (try rw [hX3]); (try rw [hn_])
              have bL3 := bL2.trans (b3.mono (Nat.le_trans hLu bL2.size))
              have hU3 := hU2.below b3
              have ho3 := ho2.below b3
              refine hK.out _ _ (fun _ => ⟨ho3.cells.1, ho3.cells.2.1, ho3.cells.2.2.1, ho3.cells.2.2.2.1, ho3.cells.2.2.2.2, sl_get hU3.a.firsts.sl HZZ.out⟩) ?_
              clear hK KK hX3 s3 hn_ b3
              try simp only [Act.put, List.setIfInBounds_toArray, List.set_cons_zero, List.set_cons_succ]
              refine oneT (i := 10) (by kernel_rfl) rfl (by rfl) (fun KK hK => ?_)
              obtain ⟨P10, n10, c10, W4, hX4, hU4, hb4⟩ := hU3.push6 (sl_one (g := K) ((cell_of_row _ _ _ _ _ (0, 0) eK3).trans rfl)) (by simp) hkyl (Nat.le_trans hLu bL3.size)
              have bL4 := bL3.trans hb4
              refine Lib.wp_append_run (P := Try.prog) W3 (.tmp 141) (.tmp 146) 29 29 rfl _ _ rfl rfl _ _ hX4 ?_
              refine hK.out _ _ (fun h => absurd h (by decide)) ?_
              clear hK KK hX4 hb4
              simp only [Act.put, List.getElem_toArray, List.getElem_cons_succ, List.getElem_cons_zero, List.setIfInBounds_toArray, List.set_cons_zero, List.set_cons_succ]
              have HE : Hid (L3 v1.heap.size V (.slice (some ⟨g5, 0, none⟩) rr c5) (.slice (some ⟨g6, o6, none⟩) m6 c6) row2 fs2 h1 (up ++ [s]) (keys ++ [zz]) (.slice P3 n3' c3') (.slice P10 n10 c10) W4) := by
               rw [← HH1.out]
               exact ⟨_, hU4, HRS.out, HUS.out, HOR.out, HUQ.out, HBW.out.trans (((HV3.out.mono HLw.out).trans bL4).mono HVL.out), HVL.out, Nat.le_trans hLu bL4.size⟩
              clear hU4 bL4
              refine oneT (i := 11) (by kernel_rfl) rfl (by rfl) (fun KK hK => ?_)
              go_simp
              refine hK.out _ _ (fun h => absurd h (by decide)) ?_
              clear hK KK
              try simp only [Act.put, List.setIfInBounds_toArray, List.set_cons_zero, List.set_cons_succ]
              refine oneT (i := 12) (by kernel_rfl) rfl (by rfl) (fun KK hK => ?_)
              go_simp
              refine hK.out _ _ (fun h => absurd h (by decide)) ?_
              clear hK KK
              try simp only [Act.put, List.setIfInBounds_toArray, List.set_cons_zero, List.set_cons_succ]
              refine doneT (by kernel_rfl) ?_
              go_wp2_with fail
              go_meet
              exact HE.out
             ·(try go_simp)
              obtain ⟨W2, K, hX2, hn_, b2, eK2, s2⟩ := one_new W1 #[.int .i64 zz] i6T
              (try rw [hX2]); (try rw [hn_])
              have ba2 := ba1.trans (b2.mono ba1.size)
              have bL2 := bL1.trans (b2.mono (Nat.le_trans hLu bL1.size))
              have hU2 := hU1.below b2
              have ho2 := ho1.below b2
              have eD2 := blk_below eD1 b2
              refine hK.out _ _ (fun _ => ⟨ho2.cells.1, ho2.cells.2.1, ho2.cells.2.2.1, ho2.cells.2.2.2.1, ho2.cells.2.2.2.2, sl_get hU2.a.firsts.sl HZZ.out⟩) ?_
              clear hK KK hX2 s2 hn_ b2
              try simp only [Act.put, List.setIfInBounds_toArray, List.set_cons_zero, List.set_cons_succ]
              refine oneT (i := 3) (by kernel_rfl) rfl (by rfl) (fun KK hK => ?_)
              obtain ⟨P3, n3', c3', W3, hX3, hU3, hb3, hg3⟩ := hU2.push5 (s := s) ⟨⟨lf, tg, A, nn, cc, B, mm, ee, C, pp, qq, (cell_of_row _ _ _ _ _ (0, 0) eD2).trans rfl, (cell_of_row _ _ _ _ _ (0, 0) eD2).trans rfl, (cell_of_row _ _ _ _ _ (0, 0) eD2).trans rfl, (cell_of_row _ _ _ _ _ (0, 0) eD2).trans rfl, (cell_of_row _ _ _ _ _ (0, 0) eD2).trans rfl, ShY.keep (fun b f => ba2.block b (HLT.out b f)) (fun b f => f.1) _ _ HSV.out⟩, trivial⟩ hupl (Nat.le_trans hLu bL2.size)
              have bL3 := bL2.trans hb3
              have ho3 := ho2.at_ (hg3.block o (Array.getElem?_eq_some_iff.1 ho2).1 fun f2 => by have := HUW.out.b.rows.lt f2.symm; have := HGO.out; omega)
              have eK3 := (hg3.block K (Array.getElem?_eq_some_iff.1 eK2).1 fun f2 => by obtain ⟨cs, -, -, r⟩ := hU2.b.rows; exact absurd ((own_ty r f2.symm).one ⟨_, eK2⟩) (by decide)).trans eK2
              refine Lib.wp_append_run (P := Try.prog) W2 (.tmp 137) (.tmp 139) 91 91 rfl _ _ rfl rfl _ _ hX3 ?_
              refine hK.out _ _ (fun _ => ⟨ho3.cells.1, ho3.cells.2.1, ho3.cells.2.2.1, ho3.cells.2.2.2.1, ho3.cells.2.2.2.2, sl_get hU3.a.firsts.sl HZZ.out⟩) ?_
              clear hK KK hX3 hg3 hb3
              simp only [Act.put, List.getElem_toArray, List.getElem_cons_succ, List.getElem_cons_zero, List.setIfInBounds_toArray, List.set_cons_zero, List.set_cons_succ]
              refine oneT (i := 10) (by kernel_rfl) rfl (by rfl) (fun KK hK => ?_)
              obtain ⟨P10, n10, c10, W4, hX4, hU4, hb4⟩ := hU3.push6 (sl_one (g := K) ((cell_of_row _ _ _ _ _ (0, 0) eK3).trans rfl)) (by simp) hkyl (Nat.le_trans hLu bL3.size)
              have bL4 := bL3.trans hb4
              refine Lib.wp_append_run (P := Try.prog) W3 (.tmp 141) (.tmp 146) 29 29 rfl _ _ rfl rfl _ _ hX4 ?_
              refine hK.out _ _ (fun h => absurd h (by decide)) ?_
              clear hK KK hX4 hb4
              simp only [Act.put, List.getElem_toArray, List.getElem_cons_succ, List.getElem_cons_zero, List.setIfInBounds_toArray, List.set_cons_zero, List.set_cons_succ]
              have HE : Hid (L3 v1.heap.size V (.slice (some ⟨g5, 0, none⟩) rr c5) (.slice (some ⟨g6, o6, none⟩) m6 c6) row2 fs2 h1 (up ++ [s]) (keys ++ [zz]) (.slice P3 n3' c3') (.slice P10 n10 c10) W4) := by
               rw [← HH1.out]
               exact ⟨_, hU4, HRS.out, HUS.out, HOR.out, HUQ.out, HBW.out.trans (((HV3.out.mono HLw.out).trans bL4).mono HVL.out), HVL.out, Nat.le_trans hLu bL4.size⟩
              clear hU4 bL4
              refine oneT (i := 11) (by kernel_rfl) rfl (by rfl) (fun KK hK => ?_)
              go_simp
              refine hK.out _ _ (fun h => absurd h (by decide)) ?_
              clear hK KK
              try simp only [Act.put, List.setIfInBounds_toArray, List.set_cons_zero, List.set_cons_succ]
              refine oneT (i := 12) (by kernel_rfl) rfl (by rfl) (fun KK hK => ?_)
              go_simp
              refine hK.out _ _ (fun h => absurd h (by decide)) ?_
              clear hK KK
              try simp only [Act.put, List.setIfInBounds_toArray, List.set_cons_zero, List.set_cons_succ]
              refine doneT (by kernel_rfl) ?_
              go_wp2_with fail
              go_meet
              exact HE.out
            ·(try go_simp)
             obtain ⟨W1, K, hX1, hn_, b1, eK1, s1⟩ := one_new W0 #[.int .i64 zz] i6T
             (try rw [hX1]); (try rw [hn_])
             have ba1 := ba0.trans (b1.mono ba0.size)
             have bL1 := bL0.trans (b1.mono (Nat.le_trans hLu bL0.size))
             have hU1 := hU0.below b1
             have ho1 := ho0.below b1
             refine hK.out _ _ (fun _ => ⟨ho1.cells.1, ho1.cells.2.1, ho1.cells.2.2.1, ho1.cells.2.2.2.1, ho1.cells.2.2.2.2, sl_get hU1.a.firsts.sl HZZ.out⟩) ?_
             clear hK KK hX1 s1 hn_ b1
             try simp only [Act.put, List.setIfInBounds_toArray, List.set_cons_zero, List.set_cons_succ]
             refine oneT (i := 2) (by kernel_rfl) rfl (by rfl) (fun KK hK => ?_)
             (try go_simp)
             obtain ⟨W2, D, hX2, hn_, b2, eD2, s2⟩ := one_new W1 #[.bool lf, .bool tg, .slice A nn cc, .slice B mm ee, .slice C pp qq] shT
             (try rw [hX2]); (try rw [hn_])
             have ba2 := ba1.trans (b2.mono ba1.size)
             have bL2 := bL1.trans (b2.mono (Nat.le_trans hLu bL1.size))
             have hU2 := hU1.below b2
             have ho2 := ho1.below b2
             have eK2 := blk_below eK1 b2
             refine hK.out _ _ (fun _ => ⟨ho2.cells.1, ho2.cells.2.1, ho2.cells.2.2.1, ho2.cells.2.2.2.1, ho2.cells.2.2.2.2, sl_get hU2.a.firsts.sl HZZ.out⟩) ?_
             clear hK KK hX2 s2 hn_ b2
             try simp only [Act.put, List.setIfInBounds_toArray, List.set_cons_zero, List.set_cons_succ]
             refine oneT (i := 3) (by kernel_rfl) rfl (by rfl) (fun KK hK => ?_)
             obtain ⟨P3, n3', c3', W3, hX3, hU3, hb3, hg3⟩ := hU2.push5 (s := s) ⟨⟨lf, tg, A, nn, cc, B, mm, ee, C, pp, qq, (cell_of_row _ _ _ _ _ (0, 0) eD2).trans rfl, (cell_of_row _ _ _ _ _ (0, 0) eD2).trans rfl, (cell_of_row _ _ _ _ _ (0, 0) eD2).trans rfl, (cell_of_row _ _ _ _ _ (0, 0) eD2).trans rfl, (cell_of_row _ _ _ _ _ (0, 0) eD2).trans rfl, ShY.keep (fun b f => ba2.block b (HLT.out b f)) (fun b f => f.1) _ _ HSV.out⟩, trivial⟩ hupl (Nat.le_trans hLu bL2.size)
             have bL3 := bL2.trans hb3
             have ho3 := ho2.at_ (hg3.block o (Array.getElem?_eq_some_iff.1 ho2).1 fun f2 => by have := HUW.out.b.rows.lt f2.symm; have := HGO.out; omega)
             have eK3 := (hg3.block K (Array.getElem?_eq_some_iff.1 eK2).1 fun f2 => by obtain ⟨cs, -, -, r⟩ := hU2.b.rows; exact absurd ((own_ty r f2.symm).one ⟨_, eK2⟩) (by decide)).trans eK2
             refine Lib.wp_append_run (P := Try.prog) W2 (.tmp 137) (.tmp 139) 91 91 rfl _ _ rfl rfl _ _ hX3 ?_
             refine hK.out _ _ (fun _ => ⟨ho3.cells.1, ho3.cells.2.1, ho3.cells.2.2.1, ho3.cells.2.2.2.1, ho3.cells.2.2.2.2, sl_get hU3.a.firsts.sl HZZ.out⟩) ?_
             clear hK KK hX3 hg3 hb3
             simp only [Act.put, List.getElem_toArray, List.getElem_cons_succ, List.getElem_cons_zero, List.setIfInBounds_toArray, List.set_cons_zero, List.set_cons_succ]
             refine oneT (i := 10) (by kernel_rfl) rfl (by rfl) (fun KK hK => ?_)
             obtain ⟨P10, n10, c10, W4, hX4, hU4, hb4⟩ := hU3.push6 (sl_one (g := K) ((cell_of_row _ _ _ _ _ (0, 0) eK3).trans rfl)) (by simp) hkyl (Nat.le_trans hLu bL3.size)
             have bL4 := bL3.trans hb4
             refine Lib.wp_append_run (P := Try.prog) W3 (.tmp 141) (.tmp 146) 29 29 rfl _ _ rfl rfl _ _ hX4 ?_
             refine hK.out _ _ (fun h => absurd h (by decide)) ?_
             clear hK KK hX4 hb4
             simp only [Act.put, List.getElem_toArray, List.getElem_cons_succ, List.getElem_cons_zero, List.setIfInBounds_toArray, List.set_cons_zero, List.set_cons_succ]
             have HE : Hid (L3 v1.heap.size V (.slice (some ⟨g5, 0, none⟩) rr c5) (.slice (some ⟨g6, o6, none⟩) m6 c6) row2 fs2 h1 (up ++ [s]) (keys ++ [zz]) (.slice P3 n3' c3') (.slice P10 n10 c10) W4) := by
              rw [← HH1.out]
              exact ⟨_, hU4, HRS.out, HUS.out, HOR.out, HUQ.out, HBW.out.trans (((HV3.out.mono HLw.out).trans bL4).mono HVL.out), HVL.out, Nat.le_trans hLu bL4.size⟩
             clear hU4 bL4
             refine oneT (i := 11) (by kernel_rfl) rfl (by rfl) (fun KK hK => ?_)
             go_simp
             refine hK.out _ _ (fun h => absurd h (by decide)) ?_
             clear hK KK
             try simp only [Act.put, List.setIfInBounds_toArray, List.set_cons_zero, List.set_cons_succ]
             refine oneT (i := 12) (by kernel_rfl) rfl (by rfl) (fun KK hK => ?_)
             go_simp
             refine hK.out _ _ (fun h => absurd h (by decide)) ?_
             clear hK KK
             try simp only [Act.put, List.setIfInBounds_toArray, List.set_cons_zero, List.set_cons_succ]
             refine doneT (by kernel_rfl) ?_
             go_wp2_with fail
             go_meet
             exact HE.out
           case rest =>
            rename World => wv
            clear ba0 bL0 hU0 ho0 hW0 hupl hkyl
            go_wp2_with fail
            go_roundg (gk - n)
            case measure => omega
            case rel => exact ⟨h1, _, _, k2 + 1, rfl, by go_num, by have := HH1.out; omega, by omega, hcut⟩
  ·have i1 : (0 : Int) < (gk : Int) := by omega
   obtain ⟨Y, hRW, hLS, hLO, hasc, hlt, hlp, hblk, hbV, hVL, hLw⟩ := HH.out
   have hrl : row.length + gk ≤ 50 := by rw [hgk]; exact hLS.most
   have hgk50 : gk ≤ 50 := by omega
   have hAT1 := at_walk (c := c1) (HK1.out.below hbV) (i := i) (by have := HLL.out; omega) (by omega)
   obtain ⟨y0, y1, y2, y3, y4⟩ := HPB.out wr hbV
   have hb3 := HB.out
   have HGK := Lib.hid hgk
   clear hRW hLS hLO hasc hlt hlp hblk hVL hLw hrl hgk
   go_wp2_with fail
   refine hAT1.mono ?_
   clear hAT1
   rintro e w2 ⟨z, rfl, hz, rfl⟩
   obtain ⟨zb, hzb⟩ : ∃ zb, z % b = zb := ⟨_, rfl⟩
   have hzl : zb < b := by rw [← hzb]; exact Nat.mod_lt _ (by omega)
   have hm1 : (z : Int).tmod (b : Int) = (zb : Int) := by rw [Int.tmod_eq_emod_of_nonneg (by omega), ← hzb]; exact (Int.natCast_emod z b).symm
   have hm2 : (z : Int) % (b : Int) = (zb : Int) := by rw [← hzb]; exact (Int.natCast_emod z b).symm
   have hw1 : IntKind.i64.wrap (1 + (zb : Int)) = 1 + (zb : Int) := IntWalk.i64_in _ (by omega)
   have hw0 : IntKind.i64.wrap (zb : Int) = (zb : Int) := IntWalk.i64_in _ (by omega)
   have hbn : ¬ ((b : Int) = 0) := by omega
   obtain ⟨n, hn⟩ : ∃ n, min (1 + zb) gk = n := ⟨_, rfl⟩
   have hmin : min (1 + (zb : Int)) (gk : Int) = (n : Int) := by omega
   have hn1 : 1 ≤ n ∧ n ≤ gk := by omega
   clear hzb hn
   have HN1 := Lib.hid hn1
   have hAT2 := at_walk (c := c2) (HK2.out.below hbV) (i := i) (by have := HLL.out; omega) (by omega)
   have hbl := HLL.out
   have hw2 : IntKind.i64.wrap ((n : Int) + 1) = ((n + 1 : Nat) : Int) := by rw [show ((n + 1 : Nat) : Int) = (n : Int) + 1 from by omega]; exact IntWalk.i64_in _ (by omega)
   go_upto_if 40 with fail
   (try rw [hmin])
   clear hmin hm1 hm2 hw1 hw0
   go_cut [10] from 36 to 47 (fun t10 wx => ∃ k : Nat, t10 = .int .i64 (k : Int) ∧ k ≤ n ∧ wr = wx)
   case first =>
    by_cases h2 : n2 = 0
    ·have h2i : ¬ (0 < n2) := by omega
     clear hAT2
     go_wp2_with fail
     go_meet
     exact ⟨n, rfl, Nat.le_refl _, rfl⟩
    ·have h2i : 0 < n2 := by omega
     go_wp2_with fail
     refine hAT2.mono ?_
     clear hAT2
     rintro e w2 ⟨z2, rfl, hz2, rfl⟩
     obtain ⟨k, hk⟩ : ∃ k, z2 % (n + 1) = k := ⟨_, rfl⟩
     have hkl : k < n + 1 := by rw [← hk]; exact Nat.mod_lt _ (by omega)
     have hm1 : (z2 : Int).tmod ((n + 1 : Nat) : Int) = (k : Int) := by rw [Int.tmod_eq_emod_of_nonneg (by omega), ← hk]; exact (Int.natCast_emod z2 (n + 1)).symm
     have hm2 : (z2 : Int) % ((n + 1 : Nat) : Int) = (k : Int) := by rw [← hk]; exact (Int.natCast_emod z2 (n + 1)).symm
     have hw0 : IntKind.i64.wrap (k : Int) = (k : Int) := IntWalk.i64_in _ (by omega)
     have hbn2 : ¬ (((n + 1 : Nat) : Int) = 0) := by omega
     obtain ⟨nn, hnn⟩ : ∃ nn, n + 1 = nn := ⟨_, rfl⟩
     rw [hnn] at hm1 hm2 hbn2 hw2
     clear hk
     go_wp2_with fail
     go_meet
     exact ⟨k, rfl, by omega, rfl⟩
   case rest =>
    obtain ⟨k, rfl, hkn, rfl⟩ := hcut
    clear hAT2 hbV y0 y1 y2 y3 y4 hw2
    obtain ⟨Y, hRW, hLS, hLO, hasc, hlt, hlp, hblk, hbV, hVL, hLw⟩ := HH.out
    have hgk := HGK.out
    have hn1 := HN1.out
    rw [← hgk] at hlp hLS
    have hlen : ls'.length ≤ 50 := by omega
    obtain ⟨q, hq⟩ : ∃ q, ls'[0]? = some q := ⟨_, List.getElem?_eq_getElem (by omega)⟩
    obtain ⟨W1, g1, hX1, hg1, b1, e1, sz1⟩ := one_new wr #[] 108
    have hp1 : Prs wr.heap.size W1 (.slice (some ⟨g1, 0, none⟩) 0 0) [] := ⟨rfl, .inr ⟨g1, 0, #[], rfl, by omega, e1, Nat.le_refl _, Nat.zero_le _, rfl, rfl⟩⟩
    have hkc : k ≤ c := by have := hlp.cap; omega
    have hkci : (k : Int) ≤ (c : Int) := by omega
    have hngk : (n : Int) ≤ (gk : Int) := by omega
    have hngk2 : n ≤ gk := hn1.2
    obtain ⟨hlk, rU⟩ := lp_upto hlp (k := k) (by omega)
    obtain ⟨v53, W2, hr53, hp2, hg2⟩ := run_pushP 69 _ _ hp1 _ _ _ _ (hlk.below b1) (by simp; omega) b1.size
    rw [List.nil_append] at hp2
    obtain ⟨A5, c5, e5, hlp5⟩ := hp2.form
    obtain ⟨k5, hk5⟩ : ∃ n, (ls'.take k).length = n := ⟨_, rfl⟩
    rw [hk5] at e5 hlp5
    subst e5
    have hb2 : Below wr.heap.size wr W2 := b1.trans ((Below.refl _ W1).grown hg2 b1.size fun j hj => (World.ownsRow.lt hp1 j hj).1)
    have hown5 : ∀ ad, A5 = some ad → wr.heap.size ≤ ad.block ∧ ad.block < W2.heap.size := fun ad f => World.ownsRow.lt hp2 ad.block (by rw [f]; rfl)
    obtain ⟨W3, g3, hX3, hg3, b3, e3, sz3⟩ := one_new W2 #[.bool true, .bool false, .slice A5 k5 c5, .slice none 0 0, .slice none 0 0] shT
    have hR2 : RW v1.heap.size (fun b => Y b ∨ wr.heap.size ≤ b ∧ b < W2.heap.size) row fs u5 u6 W2 := (hRW.below hb2).wide (fun b f => .inl f) (fun b f => by
     rcases f with f | f
     ·exact ⟨(hRW.rng b f).1, by have := (hRW.rng b f).2; have := hb2.size; omega⟩
     ·exact ⟨by omega, f.2⟩) (fun b f g => by
     rcases g with g | g
     ·exact (hRW.own5 b f).2 g
     ·have := hRW.rows.lt f; omega) (fun b f g => by
     rcases g with g | g
     ·exact (hRW.own6 b f).2 g
     ·have := (World.ownsRow.lt hRW.firsts b f).2; omega)
    have hR3 := hR2.below b3
    have h3 : ShYC (fun b => Y b ∨ wr.heap.size ≤ b ∧ b < W2.heap.size) W3 [.mk true false (ls'.take k) [] []] g3 0 := ⟨⟨true, false, A5, k5, c5, none, 0, 0, none, 0, 0, (cell_of_row _ _ _ _ _ (0, 0) e3).trans rfl, (cell_of_row _ _ _ _ _ (0, 0) e3).trans rfl, (cell_of_row _ _ _ _ _ (0, 0) e3).trans rfl, (cell_of_row _ _ _ _ _ (0, 0) e3).trans rfl, (cell_of_row _ _ _ _ _ (0, 0) e3).trans rfl, ⟨A5, k5, c5, none, 0, 0, none, 0, 0, rfl, hlp5.below b3, fun ad f => .inr (hown5 ad f), Sl.nil _, (fun _ f => by cases f), rfl, Nat.le_refl _, .inl rfl⟩⟩, trivial⟩
    have hL3 : v1.heap.size ≤ W3.heap.size := by have := hb2.size; have := b3.size; omega
    have hrl : row.length ≤ 50 := by have := hLS.most; omega
    obtain ⟨C4, p4, c4', W4, hr4, hR4, hb4, hY4⟩ := hR3.push5 h3 (by omega) hL3
    have hbw4 : Below v1.heap.size wr W4 := ((hb2.mono hLw).trans (b3.mono (by have := hb2.size; omega))).trans hb4
    have hlp4 := hlp.keepAt (w' := W4) fun ad f _ => hbw4.block _ (hblk ad f)
    obtain ⟨gq, oq, rfl, hcq⟩ : ∃ gq oq, A = some ⟨gq, oq, none⟩ ∧ W4.cell? ⟨gq, oq, none⟩ = some (.int .i64 q.1) := by
     rcases hlp4.lf.2 with f | ⟨gq, oq, f, g⟩
     ·rw [f] at hq; cases hq
     ·exact ⟨gq, oq, f, g 0 _ (cellsP_key hq)⟩
    obtain ⟨q1, hq1⟩ : ∃ q1, q.1 = q1 := ⟨_, rfl⟩
    rw [hq1] at hcq
    obtain ⟨W5, g5, hX5, hg5, b5, e5, sz5⟩ := one_new W4 #[.int .i64 q1] i6T
    have hR5 := hR4.below b5
    have hL5 : v1.heap.size ≤ W5.heap.size := by have := hbw4.size; have := b5.size; omega
    obtain ⟨C6, p6, c6, W6, hr6, hR6, hb6, hY6⟩ := hR5.push6 (sl_one (g := g5) ((cell_of_row _ _ _ _ _ (0, 0) e5).trans rfl)) (by simp) (by have := hLS.len; omega) hL5
    have hbw6 : Below v1.heap.size wr W6 := (hbw4.trans (b5.mono (by have := hbw4.size; omega))).trans hb6
    have hlp6 := hlp.keepAt (w' := W6) fun ad f _ => hbw6.block _ (hblk ad f)
    obtain ⟨hl8a, hl8b⟩ := lp_from2 hlp6 (k := n) hn1.2
    have HL8a := Lib.hid hl8a
    have HL8b := Lib.hid hl8b
    have hgl : gq < v1.heap.size := hblk _ rfl
    have hmem : q ∈ ls' := List.mem_of_getElem? hq
    have hls0 : ls' = q :: ls'.drop 1 := by
     exact kids_split' hq
    have hLS6 := hLS.snoc (ps := ls'.take k) (z := q1) (by simp; omega) (fun x hx => by rw [← hq1]; exact hlt x hx q hmem) hn1
    have hLO6 := hLO.snoc (k := k) (n := n) hLS.len hasc hlt hq hkn
    rw [hq1] at hLO6
    have hlt6 : ∀ x ∈ fs ++ [q1], ∀ p ∈ ls'.drop n, x < p.1 := by
     intro x hx p hp
     rcases List.mem_append.1 hx with hx | hx
     ·exact hlt x hx p (List.mem_of_mem_drop hp)
     ·simp at hx
      rw [hx, ← hq1]
      have hp2 : p ∈ ls'.drop 1 := by
       rw [show ls'.drop n = (ls'.drop 1).drop (n - 1) from by rw [List.drop_drop]; congr 1; omega] at hp
       exact List.mem_of_mem_drop hp
      rw [hls0] at hasc
      exact (List.pairwise_cons.1 hasc).1 p hp2
    have H8 : Hid (∀ A8 c8, Lp W6 A8 (gk - n) c8 (ls'.drop n) → (∀ ad, A8 = some ad → ad.block < v1.heap.size) → L1 v1.heap.size V (.slice C4 p4 c4') (.slice C6 p6 c6) A8 c8 (row ++ [.mk true false (ls'.take k) [] []]) (fs ++ [q1]) (ls'.drop n) W6) := by
     have e9 : (ls'.drop n).length = gk - n := by rw [List.length_drop, ← hgk]
     intro A8 c8 a1 a2
     refine ⟨_, hR6, by rw [e9]; exact hLS6, hLO6, List.Pairwise.sublist (List.drop_sublist _ _) hasc, hlt6, by rw [e9]; exact a1, a2, hbV.trans (hbw6.mono hVL), hVL, ?_⟩
     have := hbw6.size; omega
    have HE9 : Hid (gk - n = (ls'.drop n).length) := by show _ = _; rw [List.length_drop, ← hgk]
    have hwi : IntKind.i64.wrap ((i : Int) + 1) = (i : Int) + 1 := IntWalk.i64_in _ (by omega)
    have i0 : (0 : Int) < (gk : Int) := i1
    clear hRW hLS hLO hLO6 hp1 hlk hp2 hg2 hlp5 hb2 hR2 hR3 h3 hlp4 hR4 hR5 hlp6 hb4 hb6 hY4 hY6 hl8a hl8b hls0 hLS6 hlt6 hmem hgk hq1 hlt hasc hlp hblk hbV hVL hLw hL3 hL5 hbw4 hbw6 hR6 sz1 sz3 sz5 e1 e3 e5 b1 b3 b5
    go_wp2_with (at_builtin; first | refine Lib.wpList_append_run _ rfl _ _ _ _ rfl _ _ rfl rfl _ _ hr53 ?_ | refine Lib.wpList_append_run _ rfl _ _ _ _ rfl _ _ rfl rfl _ _ hr4 ?_ | refine Lib.wpList_append_run _ rfl _ _ _ _ rfl _ _ rfl rfl _ _ hr6 ?_)
    ·rename_i hcn
     go_roundg (gk - n)
     case measure => omega
     case rel => exact ⟨_, _, _, _, _, i + 1, rfl, by go_num, HE9.out, by omega, Lib.hid (H8.out _ _ (HL8a.out (by omega)) (fun ad f => by injection f with f; subst f; exact hgl))⟩
    ·rename_i hcn
     go_roundg (gk - n)
     case measure => omega
     case rel => exact ⟨_, _, _, _, _, i + 1, rfl, by go_num, HE9.out, by omega, Lib.hid (H8.out _ _ (HL8b.out (by omega)) (fun ad f => by injection f with f; subst f; exact hgl))⟩
end Go.Proofs.Ytmnldlhpiapalaa
