/-
  What inner's Absorb returns, where the way is there and both have one key fewer than ways.
-/
import Derived.Test.YtpbbkfpapmomhaaInner2
namespace Go.Proofs.Ytpbbkfpapmomhaa
open Go.ChangeShapes Go.WideShapes Go.ChangeAt Go.RowKit
set_option linter.unusedVariables false
set_option linter.unusedSimpArgs false

set_option maxHeartbeats 2000000 in
theorem absorb_in (A B A' B' : Option Addr) (n c m d n' c' m' d' : Nat) (ks ws os vs : List Int) (k : Nat) (w : World) (hk : Sl w A n c ks) (hw : Sl w B m d ws) (ho : Sl w A' n' c' os) (hv : Sl w B' m' d' vs) (hn : n ≤ 200) (hm : m ≤ 200) (hn' : n' ≤ 200) (hm' : m' ≤ 200) (hf : fitsB n m = true) (hf' : fitsB n' m' = true) (hkm : k < m) :
    Calls Try.prog 25 #[inn A n c B m d, .int .i64 (k : Int), inn A' n' c' B' m' d'] w (MadeI w (ks.take k ++ (os ++ ks.drop k)) (ws.take k ++ (vs ++ ws.drop (k + 1)))) := by
  have hnm : n + 1 = m := by simp [fitsB] at hf; omega
  have hkn : k ≤ n := by omega
  have hk1 : k + 1 ≤ m := by omega
  have hn2 : (ks.take k).length + os.length + (ks.drop k).length ≤ 1000 := by have := hk.len; have := ho.len; simp; omega
  have hm2 : (ws.take k).length + vs.length + (ws.drop (k + 1)).length ≤ 1000 := by have := hw.len; have := hv.len; simp; omega
  have HA := Lib.hid hf
  have HB := Lib.hid hf'
  have HC : Hid (hasB m (k : Int) = true) := by show _ = _; simp [hasB]; omega
  have HE : Hid (((k + 1 : Nat) : Int) = (k : Int) + 1) := by show _ = _; omega
  have hwr : IntKind.i64.wrap ((k : Int) + 1) = (k : Int) + 1 := IntWalk.i64_in _ (by omega)
  clear hf hf' hnm
  go_enter Try.func25, Try.ntmps25
  go_wp2_with fail
  obtain ⟨W0, b, R, hW, hb, hR, hb00, hs00, HN0, HO0, HV0, hR0, l1, l2, l3, l4⟩ := boxed2 w (.slice A n c) (.slice B m d) (.slice A' n' c') (.slice B' m' d')
  rw [hW, hR, hb]
  clear hW hR hb
  obtain ⟨c0, c1⟩ := id HN0
  obtain ⟨c2, c3⟩ := id HO0
  refine (fits_walk A B n c m d W0 (by omega) (by omega)).mono ?_
  rintro e w1 ⟨rfl, p1⟩
  rw [HA.out]
  obtain ⟨j0, j1⟩ := HN0.below p1
  go_wp2_with fail
  refine (has_walk A B n c m d (k : Int) w1 (by omega)).mono ?_
  rintro e w2 ⟨rfl, p12⟩
  rw [HC.out]
  have p2 := p1.trans (p12.mono p1.size)
  obtain ⟨i2, i3⟩ := HO0.below p2
  go_wp2_with fail
  refine (fits_walk A' B' n' c' m' d' w2 (by omega) (by omega)).mono ?_
  rintro e W ⟨rfl, p23⟩
  rw [HB.out]
  have p3 := p2.trans (p23.mono p2.size)
  clear c0 c1 c2 c3 j0 j1 i2 i3
  have hb0 := hb00.trans (p3.mono hb00.size)
  have hs0 : R < W.heap.size := Nat.lt_of_lt_of_le hs00 p3.size
  have HN := HN0.below p3
  have HV := HV0.below p3
  obtain ⟨c0, c1⟩ := id HN
  have HO := HO0.below p3
  obtain ⟨c2, c3⟩ := id HO
  have Hk := hk.below hb0
  have Hw := hw.below hb0
  have Ho := ho.below hb0
  have Hv := hv.below hb0
  clear hk hw ho hv p1 p12 p2 p23 p3 HN0 HO0 HV0 hb00 hs00
  obtain ⟨A1, hl1, hr1⟩ := cut_upto rowK Hk k hkn
  obtain ⟨A2, hl2, hr2⟩ := cut_from rowK Hk k hkn
  obtain ⟨B1, hl3, hr3⟩ := cut_upto rowR Hw k (by omega)
  obtain ⟨B2, hl4, hr4⟩ := cut_from rowR Hw (k + 1) hk1
  rw [HE.out] at hr4
  go_wp2
  have HF : Hid (∀ w', Below W.heap.size W w' → (w'.cell? ⟨w.heap.size, 0, none⟩ = some (.slice A n c) ∧ w'.cell? ⟨w.heap.size, 1, none⟩ = some (.slice B m d) ∧ w'.cell? ⟨b, 0, none⟩ = some (.slice A' n' c') ∧ w'.cell? ⟨b, 1, none⟩ = some (.slice B' m' d'))) := fun w' h => ⟨(HN.below h).1, (HN.below h).2, (HO.below h).1, (HO.below h).2⟩
  go_region_held3 (fun w' => w'.cell? ⟨w.heap.size, 0, none⟩ = some (.slice A n c) ∧ w'.cell? ⟨w.heap.size, 1, none⟩ = some (.slice B m d) ∧ w'.cell? ⟨b, 0, none⟩ = some (.slice A' n' c') ∧ w'.cell? ⟨b, 1, none⟩ = some (.slice B' m' d')) (first | (refine HF.out _ ?_; go_grown; done) | go_keep) (first
    | (go_at_call 40
       first
       | (refine (concatK3 _ A1 A' A2 k c n' c' (n - k) (c - k) (ks.take k) os (ks.drop k) _ ?_ ?_ ?_ ?_ ?_ ?_ hn2).mono ?_; (· (first | ((with_reducible refine c_top ?_ ?_); (· simp; done); (· rfl)) | ((with_reducible refine c_one ?_ ?_); (· simp; done); (· rfl)) | ((with_reducible refine c_two ?_ ?_); (· simp; done); (· rfl)) | ((with_reducible refine c_thr ?_ ?_); (· simp; done); (· rfl)))); (· (first | ((with_reducible refine c_top ?_ ?_); (· simp; done); (· rfl)) | ((with_reducible refine c_one ?_ ?_); (· simp; done); (· rfl)) | ((with_reducible refine c_two ?_ ?_); (· simp; done); (· rfl)) | ((with_reducible refine c_thr ?_ ?_); (· simp; done); (· rfl)))); (· (first | ((with_reducible refine c_top ?_ ?_); (· simp; done); (· rfl)) | ((with_reducible refine c_one ?_ ?_); (· simp; done); (· rfl)) | ((with_reducible refine c_two ?_ ?_); (· simp; done); (· rfl)) | ((with_reducible refine c_thr ?_ ?_); (· simp; done); (· rfl)))); (· exact hl1.below (by go_grown)); (· exact Ho.below (by go_grown)); (· exact hl2.below (by go_grown)))
       rintro e w1 ⟨v1, rfl, hr1, hb1⟩; obtain ⟨F1, N1, f1, rfl⟩ := hr1.shape
       have p1 : Below W.heap.size W w1 := Below.trans (by go_grown) (hb1.mono (by simp <;> omega))
       have q1 := p1.size
       obtain ⟨k0, k1⟩ := HN.below p1
       obtain ⟨k2, k3⟩ := HO.below p1
       have g1 := hr1.lower (base' := W.heap.size) (by simp <;> omega)
       have HB1 := Lib.hid hb1
       clear hb1 hr1)
    | (go_at_call 41
       first
       | (refine (concatR3 _ B1 B' B2 k d m' d' (m - (k + 1)) (d - (k + 1)) (ws.take k) vs (ws.drop (k + 1)) _ ?_ ?_ ?_ ?_ ?_ ?_ hm2).mono ?_; (· (first | ((with_reducible refine c_new ?_ ?_); (· simp; done); (· rfl)) | ((with_reducible refine c_old ?_); ((with_reducible refine c_new ?_ ?_); (· simp; done); (· rfl))) | ((with_reducible refine below_read HB1.out ?_); (first | ((with_reducible refine c_top ?_ ?_); (· simp; done); (· rfl)) | ((with_reducible refine c_one ?_ ?_); (· simp; done); (· rfl)) | ((with_reducible refine c_two ?_ ?_); (· simp; done); (· rfl)) | ((with_reducible refine c_thr ?_ ?_); (· simp; done); (· rfl)))) | ((with_reducible refine c_old (below_read HB1.out ?_)); (first | ((with_reducible refine c_top ?_ ?_); (· simp; done); (· rfl)) | ((with_reducible refine c_one ?_ ?_); (· simp; done); (· rfl)) | ((with_reducible refine c_two ?_ ?_); (· simp; done); (· rfl)) | ((with_reducible refine c_thr ?_ ?_); (· simp; done); (· rfl)))) | ((with_reducible refine c_old (c_old (below_read HB1.out ?_))); (first | ((with_reducible refine c_top ?_ ?_); (· simp; done); (· rfl)) | ((with_reducible refine c_one ?_ ?_); (· simp; done); (· rfl)) | ((with_reducible refine c_two ?_ ?_); (· simp; done); (· rfl)) | ((with_reducible refine c_thr ?_ ?_); (· simp; done); (· rfl)))))); (· (first | ((with_reducible refine c_new ?_ ?_); (· simp; done); (· rfl)) | ((with_reducible refine c_old ?_); ((with_reducible refine c_new ?_ ?_); (· simp; done); (· rfl))) | ((with_reducible refine below_read HB1.out ?_); (first | ((with_reducible refine c_top ?_ ?_); (· simp; done); (· rfl)) | ((with_reducible refine c_one ?_ ?_); (· simp; done); (· rfl)) | ((with_reducible refine c_two ?_ ?_); (· simp; done); (· rfl)) | ((with_reducible refine c_thr ?_ ?_); (· simp; done); (· rfl)))) | ((with_reducible refine c_old (below_read HB1.out ?_)); (first | ((with_reducible refine c_top ?_ ?_); (· simp; done); (· rfl)) | ((with_reducible refine c_one ?_ ?_); (· simp; done); (· rfl)) | ((with_reducible refine c_two ?_ ?_); (· simp; done); (· rfl)) | ((with_reducible refine c_thr ?_ ?_); (· simp; done); (· rfl)))) | ((with_reducible refine c_old (c_old (below_read HB1.out ?_))); (first | ((with_reducible refine c_top ?_ ?_); (· simp; done); (· rfl)) | ((with_reducible refine c_one ?_ ?_); (· simp; done); (· rfl)) | ((with_reducible refine c_two ?_ ?_); (· simp; done); (· rfl)) | ((with_reducible refine c_thr ?_ ?_); (· simp; done); (· rfl)))))); (· (first | ((with_reducible refine c_new ?_ ?_); (· simp; done); (· rfl)) | ((with_reducible refine c_old ?_); ((with_reducible refine c_new ?_ ?_); (· simp; done); (· rfl))) | ((with_reducible refine below_read HB1.out ?_); (first | ((with_reducible refine c_top ?_ ?_); (· simp; done); (· rfl)) | ((with_reducible refine c_one ?_ ?_); (· simp; done); (· rfl)) | ((with_reducible refine c_two ?_ ?_); (· simp; done); (· rfl)) | ((with_reducible refine c_thr ?_ ?_); (· simp; done); (· rfl)))) | ((with_reducible refine c_old (below_read HB1.out ?_)); (first | ((with_reducible refine c_top ?_ ?_); (· simp; done); (· rfl)) | ((with_reducible refine c_one ?_ ?_); (· simp; done); (· rfl)) | ((with_reducible refine c_two ?_ ?_); (· simp; done); (· rfl)) | ((with_reducible refine c_thr ?_ ?_); (· simp; done); (· rfl)))) | ((with_reducible refine c_old (c_old (below_read HB1.out ?_))); (first | ((with_reducible refine c_top ?_ ?_); (· simp; done); (· rfl)) | ((with_reducible refine c_one ?_ ?_); (· simp; done); (· rfl)) | ((with_reducible refine c_two ?_ ?_); (· simp; done); (· rfl)) | ((with_reducible refine c_thr ?_ ?_); (· simp; done); (· rfl)))))); (· exact (hl3.below p1).below (by go_grown)); (· exact (Hv.below p1).below (by go_grown)); (· exact (hl4.below p1).below (by go_grown)))
       rintro e w2 ⟨v2, rfl, hr2, hb2⟩; obtain ⟨F2, N2, f2, rfl⟩ := hr2.shape
       have p12 : Below w1.heap.size w1 w2 := Below.trans (by go_grown) (hb2.mono (by simp <;> omega))
       have p2 := p1.trans (p12.mono p1.size)
       obtain ⟨k0, k1⟩ := HN.below p2
       obtain ⟨k2, k3⟩ := HO.below p2
       obtain ⟨t0, t1, u0, u1⟩ := HV.below p2
       have g2 := hr2.lower (base' := W.heap.size) (by have := p1.size; simp <;> omega)
       clear hb2 hr2))
  all_goals go_wp2
  all_goals ((try simp only [Exit.inBlock, Exit.then]); refine bodyPost_ret (results_stored rfl rfl t0 t1) rfl ?_)
  all_goals exact madeI_end g1 hb0 hs0 (by omega) g2 p12 p1

end Go.Proofs.Ytpbbkfpapmomhaa
