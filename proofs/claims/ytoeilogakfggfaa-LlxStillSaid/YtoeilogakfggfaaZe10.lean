/-
  LlxStill's writer: what its work comes to.
-/
import Derived.Test.YtoeilogakfggfaaZd10
namespace Go.Proofs.Ytoeilogakfggfaa
open Go.ChangeShapes Go.WideShapes Go.ChangeAt Go.RowKit
set_option linter.unusedVariables false
set_option linter.unusedSimpArgs false
set_option maxRecDepth 20000

abbrev arW : TypeId := 48
/-- An array of two ways. -/
def Arr (w : World) (q : Nat) (z y : Int) : Prop := w.heap[q]? = some (.cells #[.int .i64 z, .int .i64 y] arW (0, 0))
section
variable {w w' : World} {q : Nat} {z y x : Int}
theorem Arr.c0 (h : Arr w q z y) : w.cell? ⟨q, 0, none⟩ = some (.int .i64 z) := by rw [cell_of_row w q _ _ _ (0, 0) h]; rfl
theorem Arr.c1 (h : Arr w q z y) : w.cell? ⟨q, 1, none⟩ = some (.int .i64 y) := by rw [cell_of_row w q _ _ _ (0, 0) h]; rfl
theorem Arr.fr (h : Arr w q z y) (j : Nat) : w.frozen? ⟨q, j, none⟩ = false := frozen_of_row w q j _ _ h
theorem Arr.same (h : Arr w q z y) (e : w'.heap[q]? = w.heap[q]?) : Arr w' q z y := e.trans h
theorem Arr.set0 (h : Arr w q z y) (x : Int) : Arr (w.setCell ⟨q, 0, none⟩ (.int .i64 x)) q x y := heap_setCell_same w q 0 _ _ (.int .i64 x) h
theorem Arr.set1 (h : Arr w q z y) (x : Int) : Arr (w.setCell ⟨q, 1, none⟩ (.int .i64 x)) q z x := heap_setCell_same w q 1 _ _ (.int .i64 x) h
theorem arr_new (w : World) (z y : Int) : ∃ (Y : World) (q : Nat) (Z : World), w.alloc (.cells #[.int .i64 0, .int .i64 0] arW) = Y ∧ w.heap.size = q ∧ Y.frozen? ⟨q, 0, none⟩ = false ∧ Y.frozen? ⟨q, 1, none⟩ = false ∧ Y.cell? ⟨q, 0, none⟩ = some (.int .i64 0) ∧ Y.cell? ⟨q, 1, none⟩ = some (.int .i64 0) ∧ (Y.setCell ⟨q, 0, none⟩ (.int .i64 z)).setCell ⟨q, 1, none⟩ (.int .i64 y) = Z ∧ Below w.heap.size w Z ∧ Z.heap.size = q + 1 ∧ Arr Z q z y ∧ Below w.heap.size w Y := by
  have h0 : Arr (w.alloc (.cells #[.int .i64 0, .int .i64 0] arW)) w.heap.size 0 0 := heap_alloc_new _ _
  have b1 := below_new w (.cells #[.int .i64 0, .int .i64 0] arW)
  have s1 : (w.alloc (.cells #[.int .i64 0, .int .i64 0] arW)).heap.size = w.heap.size + 1 := by simp
  generalize w.alloc (.cells #[.int .i64 0, .int .i64 0] arW) = Y at h0 b1 s1
  have h2 := (h0.set0 z).set1 y
  have b2 : Below w.heap.size Y (Y.setCell ⟨w.heap.size, 0, none⟩ (.int .i64 z)) := (only_set Y w.heap.size 0 (.int .i64 z)).below (fun b e => by omega) (by omega)
  have b3 : Below w.heap.size (Y.setCell ⟨w.heap.size, 0, none⟩ (.int .i64 z)) ((Y.setCell ⟨w.heap.size, 0, none⟩ (.int .i64 z)).setCell ⟨w.heap.size, 1, none⟩ (.int .i64 y)) := (only_set _ w.heap.size 1 (.int .i64 y)).below (fun b e => by omega) (by simp; omega)
  exact ⟨Y, _, _, rfl, rfl, h0.fr 0, h0.fr 1, h0.c0, h0.c1, rfl, (b1.trans b2).trans b3, by simp [s1], h2, b1⟩
theorem one_ref (w : World) (z : Int) : ∃ (X : World) (b : Nat), w.alloc (.cells #[.int .i64 z] rfT) = X ∧ w.heap.size = b ∧ Below w.heap.size w X ∧ X.heap.size = b + 1 ∧ Sl X (some ⟨b, 0, none⟩) 1 1 [z] :=
  ⟨_, _, rfl, rfl, below_new _ _, by simp, sl_one9 (c_new rfl rfl)⟩
end
section
variable {nds : List (Int × Nd)} {d : Wd} {R : Nat → Prop} {w : World} {a me : Nat} {wk : Value} {c : Cur} {s : Sig}
set_option maxHeartbeats 16000000 in
theorem wr1_walk {A B : Option Addr} {n c0 cB b1 b2 b3 gp m1 q1 : Nat} {l : List Int} {X : Nat → Nat} (hdm : d.m = 40) (hx : ∀ x ∈ twoN, x ∈ nds ∧ x.2.small) (hs : Sl w A 2 c0 (twoN.map Prod.fst)) (hA : ∀ ad, A = some ad → R ad.block)
    (hk : Sk .u8 0 255 w B n l) (hB : ∀ ad, l ≠ [] → B = some ad → R ad.block) (hn : n ≤ 6) (hX : ∀ i z, l[i]? = some z → X i = z.toNat % 2)
    (hR : R b1 ∧ R b2 ∧ R b3 ∧ R gp) (hm : 0 < m1) (h1 : w.cell? ⟨b1, 0, none⟩ = some (.slice (some ⟨gp, 0, none⟩) m1 q1)) (h2 : w.cell? ⟨b2, 0, none⟩ = some (.slice B n cB)) (h3 : w.cell? ⟨b3, 0, none⟩ = some (.slice A 2 c0))
    (h4 : w.cell? ⟨gp, 0, none⟩ = some (.int .i64 200)) (h5 : w.cell? ⟨gp, 1, none⟩ = some (.int .i64 210)) (h : Lv d R w a wk c s) (hP : Stt nds 40 s) :
    Calls Try.prog 21 #[tkV a d.W me, ptr b1, ptr b2, ptr b3] w (PostW d R w a wk idO (run (tWr X 0 n) c s)) := by
  obtain ⟨W, p, hW, hp, bb, tk, hsz⟩ := one_box w a d.W me
  obtain ⟨o, ho⟩ : ∃ o, run (tWr X 0 n) c s = o := ⟨_, rfl⟩
  rw [ho]
  obtain ⟨Y0, q, Z0, hY0, hq, f0, f1, y0, y1, hZ0, bZ, sZ, hAr, bY⟩ := arr_new W 200 210
  have hlt := h.lt
  have hwp : w.heap.size = p := hp
  have hpW : W.heap.size = p + 1 := by omega
  have HB : Hid (BT (Stt nds 40) d R (fun b => (R b ∨ b = p) ∨ b = q) w a me wk p o (tWr X 0 n) Z0 c s) := by
    show BT _ _ _ _ _ _ _ _ _ _ _ _ _ _
    rw [← ho]
    exact (BT.begin_ (X := fun b => R b ∨ b = p) h bb (fun b e => e.imp id fun e => by omega) (fun b e => e) tk hP).more bZ (fun b e => e.imp id fun e => ⟨by omega, by omega⟩) fun b e => .inl e
  have HQN : Hid (¬ R q ∧ q ≠ p) := ⟨fun e => by have := hlt q e; omega, by omega⟩
  have HX := Lib.hid hx
  have HXL := Lib.hid hX
  have HDM := Lib.hid hdm
  obtain ⟨ba, off, hAe, -, e0⟩ := hs.at_ (k := 0) (by decide)
  obtain ⟨ba', off', hAe', -, e1⟩ := hs.at_ (k := 1) (by decide)
  rw [hAe] at hAe'
  injection hAe' with hAe'
  injection hAe' with q3 q4
  subst q3 q4 hAe
  have hba : R ba := hA _ rfl
  have HC : Hid (∀ w', Kp R w w' → w'.cell? ⟨b3, 0, none⟩ = some (.slice (some ⟨ba, off, none⟩) 2 c0) ∧ w'.cell? ⟨ba, off, none⟩ = some (.int .i64 (rfN 0)) ∧ w'.cell? ⟨ba, off + 1, none⟩ = some (.int .i64 (rfN 1))) := fun w' hk => ⟨hk.read hR.2.2.1 h3, hk.read hba e0, hk.read hba e1⟩
  have HKB : Hid (∀ j, j < n → ∃ b off zn, B = some ⟨b, off, none⟩ ∧ zn < 256 ∧ X j = zn % 2 ∧ ∀ w', Kp R w w' → w'.cell? ⟨b, off + j, none⟩ = some (.int .u8 (zn : Int))) := fun j hj => by
    obtain ⟨b, off, z, rfl, -, hz, z1, z2, hcz⟩ := hk.at_ hj
    obtain ⟨zn, rfl⟩ := Int.eq_ofNat_of_zero_le z1
    exact ⟨b, off, zn, rfl, by omega, by have := HXL.out j _ hz; simpa using this, fun w' hkp => hkp.read (hB ⟨b, off, none⟩ (fun e => by have := hk.len; rw [e] at this; simp at this; omega) rfl) hcz⟩
  have k1 : W.cell? ⟨b1, 0, none⟩ = some (.slice (some ⟨gp, 0, none⟩) m1 q1) := below_read bb h1
  have k2 : W.cell? ⟨b2, 0, none⟩ = some (.slice B n cB) := below_read bb h2
  have k3 : W.cell? ⟨gp, 0, none⟩ = some (.int .i64 200) := below_read bb h4
  have k4 : W.cell? ⟨gp, 1, none⟩ = some (.int .i64 210) := below_read bb h5
  have k5 : Z0.cell? ⟨b2, 0, none⟩ = some (.slice B n cB) := below_read bZ k2
  have hm1 : (0 : Int) < (m1 : Int) := by omega
  have hm2 : ¬ m1 = 0 := by omega
  have HN6 := Lib.hid hn
  have HQ0 : Hid (Arr Z0 q (zwv 0 (zla X 0 0)) (zwv 1 (zla X 1 0))) := hAr
  clear h bb hsz hP ho hs hA hx hX hk hB hR h1 h2 h3 h4 h5 tk e0 e1 hba hlt hwp hpW bZ sZ hAr hdm k2 bY
  go_enter Try.func21, Try.ntmps21
  go_wp2_with fail
  (try rw [hW]); (try rw [hY0]); (try rw [hq]); (try rw [hZ0])
  go_loopg [18] n (fun gk iv wr => ∃ (j : Nat) (c' : Cur) (s' : Sig), j + gk = n ∧ iv = .int .i64 (j : Int) ∧ Hid (BT (Stt nds 40) d R (fun b => (R b ∨ b = p) ∨ b = q) w a me wk p o (tWr X j gk) wr c' s') ∧ Hid (Arr wr q (zwv 0 (zla X 0 j)) (zwv 1 (zla X 1 j))))
  case atStart => exact ⟨0, c, s, by omega, rfl, HB.out, HQ0.out⟩
  case round =>
    clear HB HQ0 k1 k3 k4 k5 f0 f1 y0 y1 hW hY0 hq hZ0
    obtain ⟨j, c2, s2, hj, rfl, HH, HQ⟩ := hrel
    by_cases hlt : j < n
    case neg =>
      have i1 : ¬ ((j : Int) < (n : Int)) := by omega
      obtain rfl : gk = 0 := by omega
      obtain ⟨V, b, hV, hb, bV, sV⟩ := one_num wr 1
      have HB1 : Hid (BT (Stt nds 40) d R (fun b => (R b ∨ b = p) ∨ b = q) w a me wk p o (.ret [1]) wr c2 s2) := HH.out
      have HE : Hid (PostW d R w a wk idO o (.returned (.slice (some ⟨b, 0, none⟩) 1 1)) V) := (HB1.out.mono (X' := fun b => R b ∨ b = p) (fun b e => .inl e) fun b e => e).postW bV sV (by simp)
      clear HH HB1 bV sV HQ
      go_wp2
      (try rw [hV]); (try rw [hb])
      go_ret
      exact HE.out
    have i1 : (j : Int) < (n : Int) := by omega
    have i0 : (0 : Int) ≤ (j : Int) := by omega
    have hn6 := HN6.out
    have hkw : IntKind.i64.wrap ((j : Int) + 1) = (j : Int) + 1 := IntWalk.i64_in _ (by omega)
    have h300 : IntKind.i64.wrap (300 + (j : Int)) = 300 + (j : Int) := IntWalk.i64_in _ (by omega)
    obtain ⟨k, rfl⟩ : ∃ k, gk = k + 1 := ⟨gk - 1, by omega⟩
    obtain ⟨bz, ofz, zn, hBe, hz, hXj, hcz⟩ := HKB.out j hlt
    subst hBe
    have hcb := hcz wr HH.out.kp
    obtain ⟨g1, g2, g3⟩ := HC.out wr HH.out.kp
    have d1 : (zn : Int).tmod 2 = (zn : Int) % 2 := Int.tmod_eq_emod_of_nonneg (by omega)
    have w8 : IntKind.u8.wrap (zn : Int) = (zn : Int) := IntWalk.u8_in _ (by omega)
    clear hcz hn6
    have hi2 : zn % 2 = 0 ∨ zn % 2 = 1 := by omega
    rcases hi2 with hi | hi
    · rw [hi] at hXj
      have d2 : (zn : Int) % 2 = 0 := by omega
      have d3 : (zn : Int).tmod 2 = 0 := by omega
      clear d1
      have HXJ := Lib.hid hXj
      have hLD : BT (Stt nds 40) d R (fun b => (R b ∨ b = p) ∨ b = q) w a me wk p o ((tLoads [] [(rfN 0, nodeNd 0)]).bind fun y => if y.2 = true then (tStore 40 y.1 1 0 (zwv 0 (zla X 0 j)) (300 + (j : Int))).bind fun z => if z.1 = true then tWr X (j + 1) k else .ret [] else .ret []) wr c2 s2 := by
        have e : tWr X j (k + 1) = (tLoads [] [(rfN 0, nodeNd 0)]).bind fun y => if y.2 = true then (tStore 40 y.1 1 0 (zwv 0 (zla X 0 j)) (300 + (j : Int))).bind fun z => if z.1 = true then tWr X (j + 1) k else .ret [] else .ret [] := by
          simp only [tWr, hXj]
        rw [← e]; exact HH.out
      have HLD := Lib.hid hLD
      clear hLD HH hXj g1 g2 g3
      go_upto_region 5 with fail
      obtain ⟨W0, hW0, b0⟩ : ∃ W0 : World, wr.drew = W0 ∧ Below wr.heap.size wr W0 := ⟨_, rfl, (Below.refl _ wr).drew⟩
      refine region_T (fun _ => false) (fun w' => w'.cell? ⟨p, 0, none⟩ = some (ptr a) ∧ w'.cell? ⟨p, 1, none⟩ = some (ptr d.W) ∧ w'.cell? ⟨p, 2, none⟩ = some (.int .i64 (me : Int)) ∧ w'.cell? ⟨b3, 0, none⟩ = some (.slice (some ⟨ba, off, none⟩) 2 c0) ∧ w'.cell? ⟨ba, off, none⟩ = some (.int .i64 (rfN 0)) ∧ w'.cell? ⟨ba, off + 1, none⟩ = some (.int .i64 (rfN 1))) (by kernel_rfl) ?_
      rw [hW0]
      have HCT : Hid (∀ w', Tk w' p a d.W me → Kp R w w' → w'.cell? ⟨p, 0, none⟩ = some (ptr a) ∧ w'.cell? ⟨p, 1, none⟩ = some (ptr d.W) ∧ w'.cell? ⟨p, 2, none⟩ = some (.int .i64 (me : Int)) ∧ w'.cell? ⟨b3, 0, none⟩ = some (.slice (some ⟨ba, off, none⟩) 2 c0) ∧ w'.cell? ⟨ba, off, none⟩ = some (.int .i64 (rfN 0)) ∧ w'.cell? ⟨ba, off + 1, none⟩ = some (.int .i64 (rfN 1))) := fun w' h1 h2 => ⟨h1.c0, h1.c1, h1.c2, HC.out w' h2⟩
      have HW := Lib.hid (HLD.out.below b0)
      have hC := HCT.out W0 HW.out.tk HW.out.kp
      obtain ⟨V, bs, hV, hbs, bV, sV, hsV⟩ := one_ref W0 (rfN 0)
      have bWV := b0.trans (bV.mono b0.size)
      have hsz0 := b0.size
      have HB1 : Hid (BT (Stt nds 40) d R (fun b => ((R b ∨ b = p) ∨ b = q) ∨ b = bs) w a me wk p o ((tLoads [] [(rfN 0, nodeNd 0)]).bind fun y => if y.2 = true then (tStore 40 y.1 1 0 (zwv 0 (zla X 0 j)) (300 + (j : Int))).bind fun z => if z.1 = true then tWr X (j + 1) k else .ret [] else .ret []) V c2 s2) :=
        HLD.out.more bWV (fun b e => e.imp id fun e => ⟨by omega, by omega⟩) fun b e => .inl (.inl e)
      have HQ1 : Hid (Arr V q (zwv 0 (zla X 0 j)) (zwv 1 (zla X 1 j))) := HQ.out.same (bWV.block q (HLD.out.lv.lt q (.inr rfl)))
      have HD := Lib.hid (loads_touch (me := me) (R := fun b => ((R b ∨ b = p) ∨ b = q) ∨ b = bs) (M := 40) (prs := [(rfN 0, nodeNd 0)]) (by omega) (fun x hx => HX.out x (by simp at hx ⊢; exact .inl hx)) (by simp) hsV (fun ad e => .inr (by injection e with e; rw [← e])) HB1.out.lv HB1.out.inv)
      have HC1 := Lib.hid (HCT.out V HB1.out.tk HB1.out.kp)
      clear b0 bV sV hsV hW0 bWV HLD HQ hsz0 HW
      refine takeX 0 24 (v := ?_) rfl rfl (by kernel_rfl) (by kernel_rfl) (by kernel_rfl) (by kernel_rfl) (by kernel_rfl) (fun _ _ _ _ h => h) hC (by rfl) ?_ ?_
      rotate_left
      · intro w hSw; (try dsimp only at hSw); go_simp; try (with_reducible rfl)
      simp only [List.setIfInBounds_toArray, List.set_cons_zero, List.set_cons_succ]
      refine takeX 1 25 (v := ?_) rfl rfl (by kernel_rfl) (by kernel_rfl) (by kernel_rfl) (by kernel_rfl) (by kernel_rfl) (fun _ _ _ _ h => h) hC (by rfl) ?_ ?_
      rotate_left
      · intro w hSw; (try dsimp only at hSw); go_simp; try (with_reducible rfl)
      simp only [List.setIfInBounds_toArray, List.set_cons_zero, List.set_cons_succ]
      refine takeX 2 26 (v := ?_) rfl rfl (by kernel_rfl) (by kernel_rfl) (by kernel_rfl) (by kernel_rfl) (by kernel_rfl) (fun _ _ _ _ h => h) hC (by rfl) ?_ ?_
      rotate_left
      · intro w hSw; (try dsimp only at hSw); go_simp; try (with_reducible rfl)
      simp only [List.setIfInBounds_toArray, List.set_cons_zero, List.set_cons_succ]
      refine takeX 3 27 (v := ?_) rfl rfl (by kernel_rfl) (by kernel_rfl) (by kernel_rfl) (by kernel_rfl) (by kernel_rfl) (fun _ _ _ _ h => h) hC (by rfl) ?_ ?_
      rotate_left
      · intro w hSw; (try dsimp only at hSw); go_simp; try (with_reducible rfl)
      simp only [List.setIfInBounds_toArray, List.set_cons_zero, List.set_cons_succ]
      refine takeX 4 28 (v := ?_) rfl rfl (by kernel_rfl) (by kernel_rfl) (by kernel_rfl) (by kernel_rfl) (by kernel_rfl) (fun _ _ _ _ h => h) hC (by rfl) ?_ ?_
      rotate_left
      · intro w hSw; (try dsimp only at hSw); go_simp; try (with_reducible rfl)
      simp only [List.setIfInBounds_toArray, List.set_cons_zero, List.set_cons_succ]
      refine takeX 5 29 (v := ?_) rfl rfl (by kernel_rfl) (by kernel_rfl) (by kernel_rfl) (by kernel_rfl) (by kernel_rfl) (fun _ _ _ _ h => h) hC (by rfl) ?_ ?_
      rotate_left
      · intro w hSw; (try dsimp only at hSw); go_simp; try (with_reducible rfl)
      simp only [List.setIfInBounds_toArray, List.set_cons_zero, List.set_cons_succ]
      clear hC
      refine oneT (i := 6) (by kernel_rfl) rfl (by rfl) (fun KK hK => ?_)
      go_simp
      (try rw [hV]); (try rw [hbs])
      refine hK.out _ _ (fun _ => HC1.out) ?_
      clear hK KK hV hbs HC1
      try simp only [Act.put, List.setIfInBounds_toArray, List.set_cons_zero, List.set_cons_succ]
      refine oneT (i := 7) (by kernel_rfl) rfl (by rfl) (fun KK hK => ?_)
      go_simp
      refine HD.out.mono ?_
      clear HD
      intro e w1 hPm
      rcases BT.callM (P := Stt nds 40) (t := tLoads [] [(rfN 0, nodeNd 0)]) (o := o) (K := fun y : List Sn × Bool => (if y.2 = true then (tStore 40 y.1 1 0 (zwv 0 (zla X 0 j)) (300 + (j : Int))).bind fun z => if z.1 = true then tWr X (j + 1) k else .ret [] else .ret [] : Tr (List Int))) HB1.out (run_kpL (kl_loads [] _)) hPm with ⟨⟨l, ok⟩, c3, s3, v, Y, rfl, hrun, ⟨u, hv, hu⟩, hB, hKp, hYn⟩ | hx
      case inr => obtain ⟨rfl, hx⟩ := hx; exact ⟨rfl, Wts.postW ⟨rfl, hx⟩⟩
      have hll : l.length ≤ ([] : List Sn).length + 1 := run_rets (Q := fun x : List Sn × Bool => x.1.length ≤ ([] : List Sn).length + [((rfN 0 : Int), nodeNd 0)].length) (rets_loads [] _) hrun
      have hll2 : l.length ≤ 20 := by simp at hll; omega
      have hv : v = .tuple #[u, .bool ok] := hv
      have hu : SnL l Y w1 u := hu
      obtain ⟨A1, c1, rfl, -⟩ := hu.shape
      subst hv
      have HQ2 : Hid (Arr w1 q (zwv 0 (zla X 0 j)) (zwv 1 (zla X 1 j))) := HQ1.out.same (hKp.block q (.inl (.inr rfl)))
      have hC := HCT.out w1 hB.tk hB.kp
      have HB2 : Hid (BT (Stt nds 40) d R (fun b => (((R b ∨ b = p) ∨ b = q) ∨ b = bs) ∨ Y b) w a me wk p o (if ok = true then (tStore 40 l 1 0 (zwv 0 (zla X 0 j)) (300 + (j : Int))).bind fun z => if z.1 = true then tWr X (j + 1) k else .ret [] else .ret []) w1 c3 s3) := hB
      have HU := Lib.hid hu
      have HLL := Lib.hid hll2
      refine hK.out _ _ (fun _ => hC) ?_
      clear hK KK hPm HB1 hrun hll hKp HQ1 hYn hB hu hll2
      try simp only [Act.put, List.setIfInBounds_toArray, List.set_cons_zero, List.set_cons_succ]
      refine takeX 8 23 (v := ?_) rfl rfl (by kernel_rfl) (by kernel_rfl) (by kernel_rfl) (by kernel_rfl) (by kernel_rfl) (fun _ _ _ _ h => h) hC (by rfl) ?_ ?_
      rotate_left
      · intro w hSw; (try dsimp only at hSw); go_simp; try (with_reducible rfl)
      simp only [List.setIfInBounds_toArray, List.set_cons_zero, List.set_cons_succ]
      refine takeX 9 32 (v := ?_) rfl rfl (by kernel_rfl) (by kernel_rfl) (by kernel_rfl) (by kernel_rfl) (by kernel_rfl) (fun _ _ _ _ h => h) hC (by rfl) ?_ ?_
      rotate_left
      · intro w hSw; (try dsimp only at hSw); go_simp; try (with_reducible rfl)
      simp only [List.setIfInBounds_toArray, List.set_cons_zero, List.set_cons_succ]
      refine takeX 10 33 (v := ?_) rfl rfl (by kernel_rfl) (by kernel_rfl) (by kernel_rfl) (by kernel_rfl) (by kernel_rfl) (fun _ _ _ _ h => h) hC (by rfl) ?_ ?_
      rotate_left
      · intro w hSw; (try dsimp only at hSw); go_simp; try (with_reducible rfl)
      simp only [List.setIfInBounds_toArray, List.set_cons_zero, List.set_cons_succ]
      refine takeX 11 9 (v := ?_) rfl rfl (by kernel_rfl) (by kernel_rfl) (by kernel_rfl) (by kernel_rfl) (by kernel_rfl) (fun _ _ _ _ h => h) hC (by rfl) ?_ ?_
      rotate_left
      · intro w hSw; (try dsimp only at hSw); go_simp; try (with_reducible rfl)
      simp only [List.setIfInBounds_toArray, List.set_cons_zero, List.set_cons_succ]
      refine takeX 12 10 (v := ?_) rfl rfl (by kernel_rfl) (by kernel_rfl) (by kernel_rfl) (by kernel_rfl) (by kernel_rfl) (fun _ _ _ _ h => h) hC (by rfl) ?_ ?_
      rotate_left
      · intro w hSw; (try dsimp only at hSw); go_simp; try (with_reducible rfl)
      simp only [List.setIfInBounds_toArray, List.set_cons_zero, List.set_cons_succ]
      clear hC
      refine doneT (by kernel_rfl) ?_
      have hB := HB2.out
      have hu := HU.out
      have hll2 := HLL.out
      clear HB2 HU HLL
      cases ok with
      | false =>
        have hB2 : BT (Stt nds 40) d R (fun b => (((R b ∨ b = p) ∨ b = q) ∨ b = bs) ∨ Y b) w a me wk p o (.ret []) w1 c3 s3 := hB
        have HE : Hid (PostW d R w a wk idO o (.returned (.slice none 0 0)) w1) := hB2.postW (v := []) (Below.refl _ _) (Sl.nil _) (by simp)
        clear hB hB2 hu HQ2
        go_wp2
        go_ret
        exact HE.out
      | true =>
        obtain ⟨V1, hV1, bV1⟩ : ∃ V1 : World, w1.drew = V1 ∧ Below w1.heap.size w1 V1 := ⟨_, rfl, (Below.refl _ w1).drew⟩
        have HB3 : Hid (BT (Stt nds 40) d R (fun b => (((R b ∨ b = p) ∨ b = q) ∨ b = bs) ∨ Y b) w a me wk p o ((tStore 40 l 1 0 (zwv 0 (zla X 0 j)) (300 + (j : Int))).bind fun z => if z.1 = true then tWr X (j + 1) k else .ret []) V1 c3 s3) := BT.below (t := (tStore 40 l 1 0 (zwv 0 (zla X 0 j)) (300 + (j : Int))).bind fun z => if z.1 = true then tWr X (j + 1) k else .ret []) hB bV1
        have hu2 : SnL l Y V1 (.slice A1 l.length c1) := hu.keep (fun b e => bV1.block b (hB.lv.lt b (.inr e))) fun b e => e
        have HD := Lib.hid (store_touch (me := me) (R := fun b => (((R b ∨ b = p) ∨ b = q) ∨ b = bs) ∨ Y b) (kp := 1) (wy := 0) (od := zwv 0 (zla X 0 j)) (nw := 300 + (j : Int)) hu2 (fun b e => .inr e) hll2 HDM.out (by omega) (in64_small (by have := HN6.out; omega)) HB3.out.lv HB3.out.inv)
        have HQ3 : Hid (Arr V1 q (zwv 0 (zla X 0 j)) (zwv 1 (zla X 1 j))) := HQ2.out.same (bV1.block q (hB.lv.lt q (.inl (.inl (.inr rfl)))))
        have HLL := Lib.hid hll2
        obtain ⟨ln, hln⟩ : ∃ ln, l.length = ln := ⟨_, rfl⟩
        rw [hln] at HD ⊢
        clear hB hu hu2 bV1 HQ2 hll2 HCT
        go_upto_region 8 with fail
        refine region_T (fun _ => false) (fun w' => w'.cell? ⟨p, 0, none⟩ = some (ptr a) ∧ w'.cell? ⟨p, 1, none⟩ = some (ptr d.W) ∧ w'.cell? ⟨p, 2, none⟩ = some (.int .i64 (me : Int)) ∧ w'.cell? ⟨q, 0, none⟩ = some (.int .i64 (zwv 0 (zla X 0 j)))) (by kernel_rfl) ?_
        rw [hV1]
        have hC : V1.cell? ⟨p, 0, none⟩ = some (ptr a) ∧ V1.cell? ⟨p, 1, none⟩ = some (ptr d.W) ∧ V1.cell? ⟨p, 2, none⟩ = some (.int .i64 (me : Int)) ∧ V1.cell? ⟨q, 0, none⟩ = some (.int .i64 (zwv 0 (zla X 0 j))) := ⟨HB3.out.tk.c0, HB3.out.tk.c1, HB3.out.tk.c2, HQ3.out.c0⟩
        clear hV1
        refine takeX 0 37 (v := ?_) rfl rfl (by kernel_rfl) (by kernel_rfl) (by kernel_rfl) (by kernel_rfl) (by kernel_rfl) (fun _ _ _ _ h => h) hC (by rfl) ?_ ?_
        rotate_left
        · intro w hSw; (try dsimp only at hSw); go_simp; try (with_reducible rfl)
        simp only [List.setIfInBounds_toArray, List.set_cons_zero, List.set_cons_succ]
        refine takeX 1 38 (v := ?_) rfl rfl (by kernel_rfl) (by kernel_rfl) (by kernel_rfl) (by kernel_rfl) (by kernel_rfl) (fun _ _ _ _ h => h) hC (by rfl) ?_ ?_
        rotate_left
        · intro w hSw; (try dsimp only at hSw); go_simp; try (with_reducible rfl)
        simp only [List.setIfInBounds_toArray, List.set_cons_zero, List.set_cons_succ]
        refine takeX 2 39 (v := ?_) rfl rfl (by kernel_rfl) (by kernel_rfl) (by kernel_rfl) (by kernel_rfl) (by kernel_rfl) (fun _ _ _ _ h => h) hC (by rfl) ?_ ?_
        rotate_left
        · intro w hSw; (try dsimp only at hSw); go_simp; try (with_reducible rfl)
        simp only [List.setIfInBounds_toArray, List.set_cons_zero, List.set_cons_succ]
        refine takeX 3 40 (v := ?_) rfl rfl (by kernel_rfl) (by kernel_rfl) (by kernel_rfl) (by kernel_rfl) (by kernel_rfl) (fun _ _ _ _ h => h) hC (by rfl) ?_ ?_
        rotate_left
        · intro w hSw; (try dsimp only at hSw); go_simp; try (with_reducible rfl)
        simp only [List.setIfInBounds_toArray, List.set_cons_zero, List.set_cons_succ]
        refine takeX 4 41 (v := ?_) rfl rfl (by kernel_rfl) (by kernel_rfl) (by kernel_rfl) (by kernel_rfl) (by kernel_rfl) (fun _ _ _ _ h => h) hC (by rfl) ?_ ?_
        rotate_left
        · intro w hSw; (try dsimp only at hSw); go_simp; try (with_reducible rfl)
        simp only [List.setIfInBounds_toArray, List.set_cons_zero, List.set_cons_succ]
        refine takeX 5 42 (v := ?_) rfl rfl (by kernel_rfl) (by kernel_rfl) (by kernel_rfl) (by kernel_rfl) (by kernel_rfl) (fun _ _ _ _ h => h) hC (by rfl) ?_ ?_
        rotate_left
        · intro w hSw; (try dsimp only at hSw); go_simp; try (with_reducible rfl)
        simp only [List.setIfInBounds_toArray, List.set_cons_zero, List.set_cons_succ]
        refine takeX 6 43 (v := ?_) rfl rfl (by kernel_rfl) (by kernel_rfl) (by kernel_rfl) (by kernel_rfl) (by kernel_rfl) (fun _ _ _ _ h => h) hC (by rfl) ?_ ?_
        rotate_left
        · intro w hSw; (try dsimp only at hSw); go_simp; try (with_reducible rfl)
        simp only [List.setIfInBounds_toArray, List.set_cons_zero, List.set_cons_succ]
        refine takeX 7 44 (v := ?_) rfl rfl (by kernel_rfl) (by kernel_rfl) (by kernel_rfl) (by kernel_rfl) (by kernel_rfl) (fun _ _ _ _ h => h) hC (by rfl) ?_ ?_
        rotate_left
        · intro w hSw; (try dsimp only at hSw); go_simp; try (with_reducible rfl)
        simp only [List.setIfInBounds_toArray, List.set_cons_zero, List.set_cons_succ]
        clear hC
        refine oneT (i := 8) (by kernel_rfl) rfl (by rfl) (fun KK hK => ?_)
        go_simp
        refine HD.out.mono ?_
        clear HD
        intro e w2 hP
        rcases BT.call (P := Stt nds 40) (o := o) (t := tStore 40 l 1 0 (zwv 0 (zla X 0 j)) (300 + (j : Int))) (K := fun z : Bool × Bool => (if z.1 = true then tWr X (j + 1) k else .ret [] : Tr (List Int))) HB3.out (run_kpL (kl_store HLL.out (in64_small (by have := HN6.out; omega)))) hP with ⟨⟨z1, z2⟩, c4, s4, rfl, -, hB, hKp⟩ | hx
        case inr => obtain ⟨rfl, hx⟩ := hx; exact ⟨rfl, Wts.postW ⟨rfl, hx⟩⟩
        have HQ4 : Hid (Arr w2 q (zwv 0 (zla X 0 j)) (zwv 1 (zla X 1 j))) := HQ3.out.same (hKp.block q (.inl (.inl (.inr rfl))))
        have hC : w2.cell? ⟨p, 0, none⟩ = some (ptr a) ∧ w2.cell? ⟨p, 1, none⟩ = some (ptr d.W) ∧ w2.cell? ⟨p, 2, none⟩ = some (.int .i64 (me : Int)) ∧ w2.cell? ⟨q, 0, none⟩ = some (.int .i64 (zwv 0 (zla X 0 j))) := ⟨hB.tk.c0, hB.tk.c1, hB.tk.c2, HQ4.out.c0⟩
        have HB4 := Lib.hid hB
        refine hK.out _ _ (fun _ => hC) ?_
        clear hK KK hP HB3 hKp HQ3 hB
        try simp only [Act.put, List.setIfInBounds_toArray, List.set_cons_zero, List.set_cons_succ]
        refine takeX 9 36 (v := ?_) rfl rfl (by kernel_rfl) (by kernel_rfl) (by kernel_rfl) (by kernel_rfl) (by kernel_rfl) (fun _ _ _ _ h => h) hC (by rfl) ?_ ?_
        rotate_left
        · intro w hSw; (try dsimp only at hSw); go_simp; try (with_reducible rfl)
        simp only [List.setIfInBounds_toArray, List.set_cons_zero, List.set_cons_succ]
        refine takeX 10 46 (v := ?_) rfl rfl (by kernel_rfl) (by kernel_rfl) (by kernel_rfl) (by kernel_rfl) (by kernel_rfl) (fun _ _ _ _ h => h) hC (by rfl) ?_ ?_
        rotate_left
        · intro w hSw; (try dsimp only at hSw); go_simp; try (with_reducible rfl)
        simp only [List.setIfInBounds_toArray, List.set_cons_zero, List.set_cons_succ]
        refine takeX 11 47 (v := ?_) rfl rfl (by kernel_rfl) (by kernel_rfl) (by kernel_rfl) (by kernel_rfl) (by kernel_rfl) (fun _ _ _ _ h => h) hC (by rfl) ?_ ?_
        rotate_left
        · intro w hSw; (try dsimp only at hSw); go_simp; try (with_reducible rfl)
        simp only [List.setIfInBounds_toArray, List.set_cons_zero, List.set_cons_succ]
        refine takeX 12 11 (v := ?_) rfl rfl (by kernel_rfl) (by kernel_rfl) (by kernel_rfl) (by kernel_rfl) (by kernel_rfl) (fun _ _ _ _ h => h) hC (by rfl) ?_ ?_
        rotate_left
        · intro w hSw; (try dsimp only at hSw); go_simp; try (with_reducible rfl)
        simp only [List.setIfInBounds_toArray, List.set_cons_zero, List.set_cons_succ]
        refine takeX 13 12 (v := ?_) rfl rfl (by kernel_rfl) (by kernel_rfl) (by kernel_rfl) (by kernel_rfl) (by kernel_rfl) (fun _ _ _ _ h => h) hC (by rfl) ?_ ?_
        rotate_left
        · intro w hSw; (try dsimp only at hSw); go_simp; try (with_reducible rfl)
        simp only [List.setIfInBounds_toArray, List.set_cons_zero, List.set_cons_succ]
        clear hC
        refine doneT (by kernel_rfl) ?_
        have hB := HB4.out
        clear HB4
        cases z1 with
        | false =>
          have hB2 : BT (Stt nds 40) d R (fun b => (((R b ∨ b = p) ∨ b = q) ∨ b = bs) ∨ Y b) w a me wk p o (.ret []) w2 c4 s4 := hB
          have HE : Hid (PostW d R w a wk idO o (.returned (.slice none 0 0)) w2) := hB2.postW (v := []) (Below.refl _ _) (Sl.nil _) (by simp)
          clear hB hB2 HQ4
          go_wp2
          go_ret
          exact HE.out
        | true =>
          have hB2 : BT (Stt nds 40) d R (fun b => (R b ∨ b = p) ∨ b = q) w a me wk p o (tWr X (j + 1) k) w2 c4 s4 := hB.mono (fun b e => .inl (.inl e)) fun b e => .inl e
          have HN : Hid (BT (Stt nds 40) d R (fun b => (R b ∨ b = p) ∨ b = q) w a me wk p o (tWr X (j + 1) k) (w2.setCell ⟨q, 0, none⟩ (.int .i64 (300 + (j : Int)))) c4 s4) := hB2.setR (.inr rfl) _ HQN.out.1 HQN.out.2
          have HQ5 : Hid (Arr (w2.setCell ⟨q, 0, none⟩ (.int .i64 (300 + (j : Int)))) q (zwv 0 (zla X 0 (j + 1))) (zwv 1 (zla X 1 (j + 1)))) := by
            have h := HQ4.out.set0 (300 + (j : Int))
            have e1 : zla X 0 (j + 1) = j + 1 := zla_hit HXJ.out
            have e2 : zla X 1 (j + 1) = zla X 1 j := zla_off (by have := HXJ.out; omega)
            have e3 : zwv 0 (j + 1) = 300 + (j : Int) := by unfold zwv; rw [if_neg (by omega)]; omega
            rw [e1, e2, e3]
            exact h
          have cq := HQ4.out.c0
          have fq := HQ4.out.fr 0
          clear hB hB2 HQ4
          go_wp2
          go_roundg k
          case measure => omega
          case rel => exact ⟨j + 1, c4, s4, by omega, by go_num, HN.out, HQ5.out⟩
    · rw [hi] at hXj
      have d2 : (zn : Int) % 2 = 1 := by omega
      have d3 : (zn : Int).tmod 2 = 1 := by omega
      clear d1
      have HXJ := Lib.hid hXj
      have hLD : BT (Stt nds 40) d R (fun b => (R b ∨ b = p) ∨ b = q) w a me wk p o ((tLoads [] [(rfN 1, nodeNd 1)]).bind fun y => if y.2 = true then (tStore 40 y.1 1 0 (zwv 1 (zla X 1 j)) (300 + (j : Int))).bind fun z => if z.1 = true then tWr X (j + 1) k else .ret [] else .ret []) wr c2 s2 := by
        have e : tWr X j (k + 1) = (tLoads [] [(rfN 1, nodeNd 1)]).bind fun y => if y.2 = true then (tStore 40 y.1 1 0 (zwv 1 (zla X 1 j)) (300 + (j : Int))).bind fun z => if z.1 = true then tWr X (j + 1) k else .ret [] else .ret [] := by
          simp only [tWr, hXj]
        rw [← e]; exact HH.out
      have HLD := Lib.hid hLD
      clear hLD HH hXj g1 g2 g3
      go_upto_region 5 with fail
      obtain ⟨W0, hW0, b0⟩ : ∃ W0 : World, wr.drew = W0 ∧ Below wr.heap.size wr W0 := ⟨_, rfl, (Below.refl _ wr).drew⟩
      refine region_T (fun _ => false) (fun w' => w'.cell? ⟨p, 0, none⟩ = some (ptr a) ∧ w'.cell? ⟨p, 1, none⟩ = some (ptr d.W) ∧ w'.cell? ⟨p, 2, none⟩ = some (.int .i64 (me : Int)) ∧ w'.cell? ⟨b3, 0, none⟩ = some (.slice (some ⟨ba, off, none⟩) 2 c0) ∧ w'.cell? ⟨ba, off, none⟩ = some (.int .i64 (rfN 0)) ∧ w'.cell? ⟨ba, off + 1, none⟩ = some (.int .i64 (rfN 1))) (by kernel_rfl) ?_
      rw [hW0]
      have HCT : Hid (∀ w', Tk w' p a d.W me → Kp R w w' → w'.cell? ⟨p, 0, none⟩ = some (ptr a) ∧ w'.cell? ⟨p, 1, none⟩ = some (ptr d.W) ∧ w'.cell? ⟨p, 2, none⟩ = some (.int .i64 (me : Int)) ∧ w'.cell? ⟨b3, 0, none⟩ = some (.slice (some ⟨ba, off, none⟩) 2 c0) ∧ w'.cell? ⟨ba, off, none⟩ = some (.int .i64 (rfN 0)) ∧ w'.cell? ⟨ba, off + 1, none⟩ = some (.int .i64 (rfN 1))) := fun w' h1 h2 => ⟨h1.c0, h1.c1, h1.c2, HC.out w' h2⟩
      have HW := Lib.hid (HLD.out.below b0)
      have hC := HCT.out W0 HW.out.tk HW.out.kp
      obtain ⟨V, bs, hV, hbs, bV, sV, hsV⟩ := one_ref W0 (rfN 1)
      have bWV := b0.trans (bV.mono b0.size)
      have hsz0 := b0.size
      have HB1 : Hid (BT (Stt nds 40) d R (fun b => ((R b ∨ b = p) ∨ b = q) ∨ b = bs) w a me wk p o ((tLoads [] [(rfN 1, nodeNd 1)]).bind fun y => if y.2 = true then (tStore 40 y.1 1 0 (zwv 1 (zla X 1 j)) (300 + (j : Int))).bind fun z => if z.1 = true then tWr X (j + 1) k else .ret [] else .ret []) V c2 s2) :=
        HLD.out.more bWV (fun b e => e.imp id fun e => ⟨by omega, by omega⟩) fun b e => .inl (.inl e)
      have HQ1 : Hid (Arr V q (zwv 0 (zla X 0 j)) (zwv 1 (zla X 1 j))) := HQ.out.same (bWV.block q (HLD.out.lv.lt q (.inr rfl)))
      have HD := Lib.hid (loads_touch (me := me) (R := fun b => ((R b ∨ b = p) ∨ b = q) ∨ b = bs) (M := 40) (prs := [(rfN 1, nodeNd 1)]) (by omega) (fun x hx => HX.out x (by simp at hx ⊢; exact .inr hx)) (by simp) hsV (fun ad e => .inr (by injection e with e; rw [← e])) HB1.out.lv HB1.out.inv)
      have HC1 := Lib.hid (HCT.out V HB1.out.tk HB1.out.kp)
      clear b0 bV sV hsV hW0 bWV HLD HQ hsz0 HW
      refine takeX 0 24 (v := ?_) rfl rfl (by kernel_rfl) (by kernel_rfl) (by kernel_rfl) (by kernel_rfl) (by kernel_rfl) (fun _ _ _ _ h => h) hC (by rfl) ?_ ?_
      rotate_left
      · intro w hSw; (try dsimp only at hSw); go_simp; try (with_reducible rfl)
      simp only [List.setIfInBounds_toArray, List.set_cons_zero, List.set_cons_succ]
      refine takeX 1 25 (v := ?_) rfl rfl (by kernel_rfl) (by kernel_rfl) (by kernel_rfl) (by kernel_rfl) (by kernel_rfl) (fun _ _ _ _ h => h) hC (by rfl) ?_ ?_
      rotate_left
      · intro w hSw; (try dsimp only at hSw); go_simp; try (with_reducible rfl)
      simp only [List.setIfInBounds_toArray, List.set_cons_zero, List.set_cons_succ]
      refine takeX 2 26 (v := ?_) rfl rfl (by kernel_rfl) (by kernel_rfl) (by kernel_rfl) (by kernel_rfl) (by kernel_rfl) (fun _ _ _ _ h => h) hC (by rfl) ?_ ?_
      rotate_left
      · intro w hSw; (try dsimp only at hSw); go_simp; try (with_reducible rfl)
      simp only [List.setIfInBounds_toArray, List.set_cons_zero, List.set_cons_succ]
      refine takeX 3 27 (v := ?_) rfl rfl (by kernel_rfl) (by kernel_rfl) (by kernel_rfl) (by kernel_rfl) (by kernel_rfl) (fun _ _ _ _ h => h) hC (by rfl) ?_ ?_
      rotate_left
      · intro w hSw; (try dsimp only at hSw); go_simp; try (with_reducible rfl)
      simp only [List.setIfInBounds_toArray, List.set_cons_zero, List.set_cons_succ]
      refine takeX 4 28 (v := ?_) rfl rfl (by kernel_rfl) (by kernel_rfl) (by kernel_rfl) (by kernel_rfl) (by kernel_rfl) (fun _ _ _ _ h => h) hC (by rfl) ?_ ?_
      rotate_left
      · intro w hSw; (try dsimp only at hSw); go_simp; try (with_reducible rfl)
      simp only [List.setIfInBounds_toArray, List.set_cons_zero, List.set_cons_succ]
      refine takeX 5 29 (v := ?_) rfl rfl (by kernel_rfl) (by kernel_rfl) (by kernel_rfl) (by kernel_rfl) (by kernel_rfl) (fun _ _ _ _ h => h) hC (by rfl) ?_ ?_
      rotate_left
      · intro w hSw; (try dsimp only at hSw); go_simp; try (with_reducible rfl)
      simp only [List.setIfInBounds_toArray, List.set_cons_zero, List.set_cons_succ]
      clear hC
      refine oneT (i := 6) (by kernel_rfl) rfl (by rfl) (fun KK hK => ?_)
      go_simp
      (try rw [hV]); (try rw [hbs])
      refine hK.out _ _ (fun _ => HC1.out) ?_
      clear hK KK hV hbs HC1
      try simp only [Act.put, List.setIfInBounds_toArray, List.set_cons_zero, List.set_cons_succ]
      refine oneT (i := 7) (by kernel_rfl) rfl (by rfl) (fun KK hK => ?_)
      go_simp
      refine HD.out.mono ?_
      clear HD
      intro e w1 hPm
      rcases BT.callM (P := Stt nds 40) (t := tLoads [] [(rfN 1, nodeNd 1)]) (o := o) (K := fun y : List Sn × Bool => (if y.2 = true then (tStore 40 y.1 1 0 (zwv 1 (zla X 1 j)) (300 + (j : Int))).bind fun z => if z.1 = true then tWr X (j + 1) k else .ret [] else .ret [] : Tr (List Int))) HB1.out (run_kpL (kl_loads [] _)) hPm with ⟨⟨l, ok⟩, c3, s3, v, Y, rfl, hrun, ⟨u, hv, hu⟩, hB, hKp, hYn⟩ | hx
      case inr => obtain ⟨rfl, hx⟩ := hx; exact ⟨rfl, Wts.postW ⟨rfl, hx⟩⟩
      have hll : l.length ≤ ([] : List Sn).length + 1 := run_rets (Q := fun x : List Sn × Bool => x.1.length ≤ ([] : List Sn).length + [((rfN 1 : Int), nodeNd 1)].length) (rets_loads [] _) hrun
      have hll2 : l.length ≤ 20 := by simp at hll; omega
      have hv : v = .tuple #[u, .bool ok] := hv
      have hu : SnL l Y w1 u := hu
      obtain ⟨A1, c1, rfl, -⟩ := hu.shape
      subst hv
      have HQ2 : Hid (Arr w1 q (zwv 0 (zla X 0 j)) (zwv 1 (zla X 1 j))) := HQ1.out.same (hKp.block q (.inl (.inr rfl)))
      have hC := HCT.out w1 hB.tk hB.kp
      have HB2 : Hid (BT (Stt nds 40) d R (fun b => (((R b ∨ b = p) ∨ b = q) ∨ b = bs) ∨ Y b) w a me wk p o (if ok = true then (tStore 40 l 1 0 (zwv 1 (zla X 1 j)) (300 + (j : Int))).bind fun z => if z.1 = true then tWr X (j + 1) k else .ret [] else .ret []) w1 c3 s3) := hB
      have HU := Lib.hid hu
      have HLL := Lib.hid hll2
      refine hK.out _ _ (fun _ => hC) ?_
      clear hK KK hPm HB1 hrun hll hKp HQ1 hYn hB hu hll2
      try simp only [Act.put, List.setIfInBounds_toArray, List.set_cons_zero, List.set_cons_succ]
      refine takeX 8 23 (v := ?_) rfl rfl (by kernel_rfl) (by kernel_rfl) (by kernel_rfl) (by kernel_rfl) (by kernel_rfl) (fun _ _ _ _ h => h) hC (by rfl) ?_ ?_
      rotate_left
      · intro w hSw; (try dsimp only at hSw); go_simp; try (with_reducible rfl)
      simp only [List.setIfInBounds_toArray, List.set_cons_zero, List.set_cons_succ]
      refine takeX 9 32 (v := ?_) rfl rfl (by kernel_rfl) (by kernel_rfl) (by kernel_rfl) (by kernel_rfl) (by kernel_rfl) (fun _ _ _ _ h => h) hC (by rfl) ?_ ?_
      rotate_left
      · intro w hSw; (try dsimp only at hSw); go_simp; try (with_reducible rfl)
      simp only [List.setIfInBounds_toArray, List.set_cons_zero, List.set_cons_succ]
      refine takeX 10 33 (v := ?_) rfl rfl (by kernel_rfl) (by kernel_rfl) (by kernel_rfl) (by kernel_rfl) (by kernel_rfl) (fun _ _ _ _ h => h) hC (by rfl) ?_ ?_
      rotate_left
      · intro w hSw; (try dsimp only at hSw); go_simp; try (with_reducible rfl)
      simp only [List.setIfInBounds_toArray, List.set_cons_zero, List.set_cons_succ]
      refine takeX 11 9 (v := ?_) rfl rfl (by kernel_rfl) (by kernel_rfl) (by kernel_rfl) (by kernel_rfl) (by kernel_rfl) (fun _ _ _ _ h => h) hC (by rfl) ?_ ?_
      rotate_left
      · intro w hSw; (try dsimp only at hSw); go_simp; try (with_reducible rfl)
      simp only [List.setIfInBounds_toArray, List.set_cons_zero, List.set_cons_succ]
      refine takeX 12 10 (v := ?_) rfl rfl (by kernel_rfl) (by kernel_rfl) (by kernel_rfl) (by kernel_rfl) (by kernel_rfl) (fun _ _ _ _ h => h) hC (by rfl) ?_ ?_
      rotate_left
      · intro w hSw; (try dsimp only at hSw); go_simp; try (with_reducible rfl)
      simp only [List.setIfInBounds_toArray, List.set_cons_zero, List.set_cons_succ]
      clear hC
      refine doneT (by kernel_rfl) ?_
      have hB := HB2.out
      have hu := HU.out
      have hll2 := HLL.out
      clear HB2 HU HLL
      cases ok with
      | false =>
        have hB2 : BT (Stt nds 40) d R (fun b => (((R b ∨ b = p) ∨ b = q) ∨ b = bs) ∨ Y b) w a me wk p o (.ret []) w1 c3 s3 := hB
        have HE : Hid (PostW d R w a wk idO o (.returned (.slice none 0 0)) w1) := hB2.postW (v := []) (Below.refl _ _) (Sl.nil _) (by simp)
        clear hB hB2 hu HQ2
        go_wp2
        go_ret
        exact HE.out
      | true =>
        obtain ⟨V1, hV1, bV1⟩ : ∃ V1 : World, w1.drew = V1 ∧ Below w1.heap.size w1 V1 := ⟨_, rfl, (Below.refl _ w1).drew⟩
        have HB3 : Hid (BT (Stt nds 40) d R (fun b => (((R b ∨ b = p) ∨ b = q) ∨ b = bs) ∨ Y b) w a me wk p o ((tStore 40 l 1 0 (zwv 1 (zla X 1 j)) (300 + (j : Int))).bind fun z => if z.1 = true then tWr X (j + 1) k else .ret []) V1 c3 s3) := BT.below (t := (tStore 40 l 1 0 (zwv 1 (zla X 1 j)) (300 + (j : Int))).bind fun z => if z.1 = true then tWr X (j + 1) k else .ret []) hB bV1
        have hu2 : SnL l Y V1 (.slice A1 l.length c1) := hu.keep (fun b e => bV1.block b (hB.lv.lt b (.inr e))) fun b e => e
        have HD := Lib.hid (store_touch (me := me) (R := fun b => (((R b ∨ b = p) ∨ b = q) ∨ b = bs) ∨ Y b) (kp := 1) (wy := 0) (od := zwv 1 (zla X 1 j)) (nw := 300 + (j : Int)) hu2 (fun b e => .inr e) hll2 HDM.out (by omega) (in64_small (by have := HN6.out; omega)) HB3.out.lv HB3.out.inv)
        have HQ3 : Hid (Arr V1 q (zwv 0 (zla X 0 j)) (zwv 1 (zla X 1 j))) := HQ2.out.same (bV1.block q (hB.lv.lt q (.inl (.inl (.inr rfl)))))
        have HLL := Lib.hid hll2
        obtain ⟨ln, hln⟩ : ∃ ln, l.length = ln := ⟨_, rfl⟩
        rw [hln] at HD ⊢
        clear hB hu hu2 bV1 HQ2 hll2 HCT
        go_upto_region 8 with fail
        refine region_T (fun _ => false) (fun w' => w'.cell? ⟨p, 0, none⟩ = some (ptr a) ∧ w'.cell? ⟨p, 1, none⟩ = some (ptr d.W) ∧ w'.cell? ⟨p, 2, none⟩ = some (.int .i64 (me : Int)) ∧ w'.cell? ⟨q, 1, none⟩ = some (.int .i64 (zwv 1 (zla X 1 j)))) (by kernel_rfl) ?_
        rw [hV1]
        have hC : V1.cell? ⟨p, 0, none⟩ = some (ptr a) ∧ V1.cell? ⟨p, 1, none⟩ = some (ptr d.W) ∧ V1.cell? ⟨p, 2, none⟩ = some (.int .i64 (me : Int)) ∧ V1.cell? ⟨q, 1, none⟩ = some (.int .i64 (zwv 1 (zla X 1 j))) := ⟨HB3.out.tk.c0, HB3.out.tk.c1, HB3.out.tk.c2, HQ3.out.c1⟩
        clear hV1
        refine takeX 0 37 (v := ?_) rfl rfl (by kernel_rfl) (by kernel_rfl) (by kernel_rfl) (by kernel_rfl) (by kernel_rfl) (fun _ _ _ _ h => h) hC (by rfl) ?_ ?_
        rotate_left
        · intro w hSw; (try dsimp only at hSw); go_simp; try (with_reducible rfl)
        simp only [List.setIfInBounds_toArray, List.set_cons_zero, List.set_cons_succ]
        refine takeX 1 38 (v := ?_) rfl rfl (by kernel_rfl) (by kernel_rfl) (by kernel_rfl) (by kernel_rfl) (by kernel_rfl) (fun _ _ _ _ h => h) hC (by rfl) ?_ ?_
        rotate_left
        · intro w hSw; (try dsimp only at hSw); go_simp; try (with_reducible rfl)
        simp only [List.setIfInBounds_toArray, List.set_cons_zero, List.set_cons_succ]
        refine takeX 2 39 (v := ?_) rfl rfl (by kernel_rfl) (by kernel_rfl) (by kernel_rfl) (by kernel_rfl) (by kernel_rfl) (fun _ _ _ _ h => h) hC (by rfl) ?_ ?_
        rotate_left
        · intro w hSw; (try dsimp only at hSw); go_simp; try (with_reducible rfl)
        simp only [List.setIfInBounds_toArray, List.set_cons_zero, List.set_cons_succ]
        refine takeX 3 40 (v := ?_) rfl rfl (by kernel_rfl) (by kernel_rfl) (by kernel_rfl) (by kernel_rfl) (by kernel_rfl) (fun _ _ _ _ h => h) hC (by rfl) ?_ ?_
        rotate_left
        · intro w hSw; (try dsimp only at hSw); go_simp; try (with_reducible rfl)
        simp only [List.setIfInBounds_toArray, List.set_cons_zero, List.set_cons_succ]
        refine takeX 4 41 (v := ?_) rfl rfl (by kernel_rfl) (by kernel_rfl) (by kernel_rfl) (by kernel_rfl) (by kernel_rfl) (fun _ _ _ _ h => h) hC (by rfl) ?_ ?_
        rotate_left
        · intro w hSw; (try dsimp only at hSw); go_simp; try (with_reducible rfl)
        simp only [List.setIfInBounds_toArray, List.set_cons_zero, List.set_cons_succ]
        refine takeX 5 42 (v := ?_) rfl rfl (by kernel_rfl) (by kernel_rfl) (by kernel_rfl) (by kernel_rfl) (by kernel_rfl) (fun _ _ _ _ h => h) hC (by rfl) ?_ ?_
        rotate_left
        · intro w hSw; (try dsimp only at hSw); go_simp; try (with_reducible rfl)
        simp only [List.setIfInBounds_toArray, List.set_cons_zero, List.set_cons_succ]
        refine takeX 6 43 (v := ?_) rfl rfl (by kernel_rfl) (by kernel_rfl) (by kernel_rfl) (by kernel_rfl) (by kernel_rfl) (fun _ _ _ _ h => h) hC (by rfl) ?_ ?_
        rotate_left
        · intro w hSw; (try dsimp only at hSw); go_simp; try (with_reducible rfl)
        simp only [List.setIfInBounds_toArray, List.set_cons_zero, List.set_cons_succ]
        refine takeX 7 44 (v := ?_) rfl rfl (by kernel_rfl) (by kernel_rfl) (by kernel_rfl) (by kernel_rfl) (by kernel_rfl) (fun _ _ _ _ h => h) hC (by rfl) ?_ ?_
        rotate_left
        · intro w hSw; (try dsimp only at hSw); go_simp; try (with_reducible rfl)
        simp only [List.setIfInBounds_toArray, List.set_cons_zero, List.set_cons_succ]
        clear hC
        refine oneT (i := 8) (by kernel_rfl) rfl (by rfl) (fun KK hK => ?_)
        go_simp
        refine HD.out.mono ?_
        clear HD
        intro e w2 hP
        rcases BT.call (P := Stt nds 40) (o := o) (t := tStore 40 l 1 0 (zwv 1 (zla X 1 j)) (300 + (j : Int))) (K := fun z : Bool × Bool => (if z.1 = true then tWr X (j + 1) k else .ret [] : Tr (List Int))) HB3.out (run_kpL (kl_store HLL.out (in64_small (by have := HN6.out; omega)))) hP with ⟨⟨z1, z2⟩, c4, s4, rfl, -, hB, hKp⟩ | hx
        case inr => obtain ⟨rfl, hx⟩ := hx; exact ⟨rfl, Wts.postW ⟨rfl, hx⟩⟩
        have HQ4 : Hid (Arr w2 q (zwv 0 (zla X 0 j)) (zwv 1 (zla X 1 j))) := HQ3.out.same (hKp.block q (.inl (.inl (.inr rfl))))
        have hC : w2.cell? ⟨p, 0, none⟩ = some (ptr a) ∧ w2.cell? ⟨p, 1, none⟩ = some (ptr d.W) ∧ w2.cell? ⟨p, 2, none⟩ = some (.int .i64 (me : Int)) ∧ w2.cell? ⟨q, 1, none⟩ = some (.int .i64 (zwv 1 (zla X 1 j))) := ⟨hB.tk.c0, hB.tk.c1, hB.tk.c2, HQ4.out.c1⟩
        have HB4 := Lib.hid hB
        refine hK.out _ _ (fun _ => hC) ?_
        clear hK KK hP HB3 hKp HQ3 hB
        try simp only [Act.put, List.setIfInBounds_toArray, List.set_cons_zero, List.set_cons_succ]
        refine takeX 9 36 (v := ?_) rfl rfl (by kernel_rfl) (by kernel_rfl) (by kernel_rfl) (by kernel_rfl) (by kernel_rfl) (fun _ _ _ _ h => h) hC (by rfl) ?_ ?_
        rotate_left
        · intro w hSw; (try dsimp only at hSw); go_simp; try (with_reducible rfl)
        simp only [List.setIfInBounds_toArray, List.set_cons_zero, List.set_cons_succ]
        refine takeX 10 46 (v := ?_) rfl rfl (by kernel_rfl) (by kernel_rfl) (by kernel_rfl) (by kernel_rfl) (by kernel_rfl) (fun _ _ _ _ h => h) hC (by rfl) ?_ ?_
        rotate_left
        · intro w hSw; (try dsimp only at hSw); go_simp; try (with_reducible rfl)
        simp only [List.setIfInBounds_toArray, List.set_cons_zero, List.set_cons_succ]
        refine takeX 11 47 (v := ?_) rfl rfl (by kernel_rfl) (by kernel_rfl) (by kernel_rfl) (by kernel_rfl) (by kernel_rfl) (fun _ _ _ _ h => h) hC (by rfl) ?_ ?_
        rotate_left
        · intro w hSw; (try dsimp only at hSw); go_simp; try (with_reducible rfl)
        simp only [List.setIfInBounds_toArray, List.set_cons_zero, List.set_cons_succ]
        refine takeX 12 11 (v := ?_) rfl rfl (by kernel_rfl) (by kernel_rfl) (by kernel_rfl) (by kernel_rfl) (by kernel_rfl) (fun _ _ _ _ h => h) hC (by rfl) ?_ ?_
        rotate_left
        · intro w hSw; (try dsimp only at hSw); go_simp; try (with_reducible rfl)
        simp only [List.setIfInBounds_toArray, List.set_cons_zero, List.set_cons_succ]
        refine takeX 13 12 (v := ?_) rfl rfl (by kernel_rfl) (by kernel_rfl) (by kernel_rfl) (by kernel_rfl) (by kernel_rfl) (fun _ _ _ _ h => h) hC (by rfl) ?_ ?_
        rotate_left
        · intro w hSw; (try dsimp only at hSw); go_simp; try (with_reducible rfl)
        simp only [List.setIfInBounds_toArray, List.set_cons_zero, List.set_cons_succ]
        clear hC
        refine doneT (by kernel_rfl) ?_
        have hB := HB4.out
        clear HB4
        cases z1 with
        | false =>
          have hB2 : BT (Stt nds 40) d R (fun b => (((R b ∨ b = p) ∨ b = q) ∨ b = bs) ∨ Y b) w a me wk p o (.ret []) w2 c4 s4 := hB
          have HE : Hid (PostW d R w a wk idO o (.returned (.slice none 0 0)) w2) := hB2.postW (v := []) (Below.refl _ _) (Sl.nil _) (by simp)
          clear hB hB2 HQ4
          go_wp2
          go_ret
          exact HE.out
        | true =>
          have hB2 : BT (Stt nds 40) d R (fun b => (R b ∨ b = p) ∨ b = q) w a me wk p o (tWr X (j + 1) k) w2 c4 s4 := hB.mono (fun b e => .inl (.inl e)) fun b e => .inl e
          have HN : Hid (BT (Stt nds 40) d R (fun b => (R b ∨ b = p) ∨ b = q) w a me wk p o (tWr X (j + 1) k) (w2.setCell ⟨q, 1, none⟩ (.int .i64 (300 + (j : Int)))) c4 s4) := hB2.setR (.inr rfl) _ HQN.out.1 HQN.out.2
          have HQ5 : Hid (Arr (w2.setCell ⟨q, 1, none⟩ (.int .i64 (300 + (j : Int)))) q (zwv 0 (zla X 0 (j + 1))) (zwv 1 (zla X 1 (j + 1)))) := by
            have h := HQ4.out.set1 (300 + (j : Int))
            have e1 : zla X 1 (j + 1) = j + 1 := zla_hit HXJ.out
            have e2 : zla X 0 (j + 1) = zla X 0 j := zla_off (by have := HXJ.out; omega)
            have e3 : zwv 1 (j + 1) = 300 + (j : Int) := by unfold zwv; rw [if_neg (by omega)]; omega
            rw [e1, e2, e3]
            exact h
          have cq := HQ4.out.c1
          have fq := HQ4.out.fr 1
          clear hB hB2 HQ4
          go_wp2
          go_roundg k
          case measure => omega
          case rel => exact ⟨j + 1, c4, s4, by omega, by go_num, HN.out, HQ5.out⟩
end
end Go.Proofs.Ytoeilogakfggfaa
