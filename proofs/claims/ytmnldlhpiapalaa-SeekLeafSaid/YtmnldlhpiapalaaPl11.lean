/-
  A tree planted in a world that is new; the laws' worlds.
-/
import Derived.Test.YtmnldlhpiapalaaMz11
namespace Go.Proofs.Ytmnldlhpiapalaa
open Go.ChangeShapes Go.WideShapes Go.ChangeAt Go.RowKit
set_option linter.unusedVariables false
set_option linter.unusedSimpArgs false
set_option maxRecDepth 20000

def rootR (s : Sh) : Int := Go.Proofs.Ytmnldlhpiapalaa.mk ((1 + s.many : Nat) : Int) 1
/-- Where a tree stands. -/
def plantSig (m L : Nat) (s : Sh) : Sig := ⟨⟨m, Pa.gone 1 :: { entryPa with ws := [rootR s] } :: s.pas 2, [0], 0⟩, 0, List.replicate L (-1, []), []⟩
section
variable {m L : Nat} {s : Sh}
theorem plant_way : gWay (Go.Proofs.Ytmnldlhpiapalaa.mk 1 1) 0 (newSig m L) = (Go.Proofs.Ytmnldlhpiapalaa.mk 0 1, newSig m L) := by rfl
theorem plant_swap : gSwapWay (Go.Proofs.Ytmnldlhpiapalaa.mk 1 1) 0 (Go.Proofs.Ytmnldlhpiapalaa.mk 0 1) (rootR s) (addP (newSig m L) (s.pas 2)) = (1, ⟨⟨m, rootPa :: { entryPa with ws := [rootR s] } :: s.pas 2, [], 0⟩, 0, List.replicate L (-1, []), []⟩) := by rfl
theorem plant_free : gFree (Go.Proofs.Ytmnldlhpiapalaa.mk 0 1) ⟨⟨m, rootPa :: { entryPa with ws := [rootR s] } :: s.pas 2, [], 0⟩, 0, List.replicate L (-1, []), []⟩ = (1, plantSig m L s) := by rfl
theorem ok_new (hm : m ≤ 65536) : Ok (newSig m L).ar := by
  refine ⟨by simp [newSig], fun p hp => ?_, by simp [newSig], by simp [newSig]⟩
  simp only [newSig, List.mem_cons, List.not_mem_nil, or_false] at hp
  rcases hp with rfl | rfl
  · simp only [rootPa]; omega
  · simp only [entryPa]; omega
theorem ok_swapped (hs : s.many ≤ 50000) : Ok (⟨⟨m, rootPa :: { entryPa with ws := [rootR s] } :: s.pas 2, [], 0⟩, 0, List.replicate L (-1, []), []⟩ : Sig).ar := by
  refine ⟨by simp only [List.length_cons, pas_len]; omega, fun p hp => ?_, by simp, by simp⟩
  rcases List.mem_cons.1 hp with rfl | hp
  · simp only [rootPa]; omega
  · rcases List.mem_cons.1 hp with rfl | hp
    · simp only [entryPa]; omega
    · rw [pas_cnt s 2 p hp]; omega
end
theorem nxW_two {FW FW' FW2 : Nat → Prop} {w w1 w2 : World} (h2 : Only FW w w1) (h3 : ∀ b, FW' b → FW b ∨ w.heap.size ≤ b) (k2 : Only FW' w1 w2) (k3 : ∀ b, FW2 b → FW' b ∨ w1.heap.size ≤ b) : Only FW w w2 ∧ ∀ b, FW2 b → FW b ∨ w.heap.size ≤ b := by
  refine ⟨⟨k2.os.trans h2.os, k2.tape.trans h2.tape, k2.output.trans h2.output, Nat.le_trans h2.size k2.size, fun k hk hn => (k2.block k (Nat.lt_of_lt_of_le hk h2.size) fun f => ?_).trans (h2.block k hk hn)⟩, fun b e => ?_⟩
  · rcases h3 k f with e | e
    · exact hn e
    · omega
  · rcases k3 b e with e | e
    · exact h3 b e
    · exact .inr (Nat.le_trans h2.size e)
theorem nxW_trans {d : Wd} {FW FW' : Nat → Prop} {w w1 w2 : World} {s' : Sig} (h2 : Only FW w w1) (h3 : ∀ b, FW' b → FW b ∨ w.heap.size ≤ b) (h4 : NxW d FW' w1 s' w2) : NxW d FW w s' w2 := by
  obtain ⟨FW2, k1, k2, k3⟩ := h4
  exact ⟨FW2, k1, nxW_two h2 h3 k2 k3⟩
theorem only_step {FW : Nat → Prop} {w w1 w2 : World} (h1 : Only FW w w1) (h2 : Below w1.heap.size w1 w2) : Only FW w w2 :=
  ⟨h2.os.trans h1.os, h2.tape.trans h1.tape, h2.output.trans h1.output, Nat.le_trans h1.size h2.size, fun k hk hn => (h2.block k (Nat.lt_of_lt_of_le hk h1.size)).trans (h1.block k hk hn)⟩
set_option maxHeartbeats 4000000 in
theorem plant_walk {d : Wd} {FW : Nat → Prop} {lo m L : Nat} {w : World} {v : Value} {s : Sh} (hsm : s.small) (hv : ShV lo w s v) (hlo : lo ≤ w.heap.size) (hws : WS d FW w (newSig m L)) (hFW : ∀ b, FW b → lo ≤ b) (hen : d.en = Go.Proofs.Ytmnldlhpiapalaa.mk 1 1) (hm : 2 + s.many ≤ m) (hm2 : m ≤ 50000) :
    Calls Try.prog 74 #[ptr d.W, v] w fun e w' => e = .returned (.tuple #[]) ∧ NxW d FW w (plantSig m L s) w' := by
  obtain ⟨lf, tg, A, na, c, B, mb, e, C, p, q, rfl⟩ := hv.form
  obtain ⟨X, b, hX, hb, bX, eX, sX⟩ := Shc.new w (.bool lf) (.bool tg) (.slice A na c) (.slice B mb e) (.slice C p q)
  have HWS : Hid (WS d FW X (newSig m L)) := hws.below bX
  have HOX : Hid (Only FW w X) := only_step (Only.refl FW w) bX
  have HV : Hid (ShV lo X s (shv lf tg (.slice A na c) (.slice B mb e) (.slice C p q))) := hv.below bX hlo
  have HLO : Hid (lo ≤ X.heap.size) := Nat.le_trans hlo bX.size
  have HNB : Hid (¬ FW b) := fun f => by have := hws.lt b f; omega
  have HEX := Lib.hid eX
  have HFW := Lib.hid hFW
  have HSM := Lib.hid hsm
  have HWY : Hid (∀ q, Calls Try.prog 21 #[ptr d.A, .int .i64 (Go.Proofs.Ytmnldlhpiapalaa.mk 1 1), .int .i64 0] (X.drewN q) fun e w' => e = .returned (.int .i64 (Go.Proofs.Ytmnldlhpiapalaa.mk 0 1)) ∧ ∃ t, w' = X.drewN t) := fun q =>
    (nxW_way (i := 1) (p := entryPa) (HWS.out.below (below_drewN (Below.refl _ X) q)) (ok_new (L := L) (by omega)) rfl 0).mono fun e w' ⟨h1, h2⟩ => ⟨h1, q, h2.symm⟩
  obtain ⟨g0, -, -, -, -, g5⟩ := HWS.out.cells
  rw [hen] at g5
  obtain ⟨x0, x1, x2, x3, x4⟩ := eX.cells
  have HEN := Lib.hid hen
  clear hv hws bX sX eX hFW hsm hlo hen
  go_enter Try.func74, Try.ntmps74
  go_wp2_with fail
  (try rw [hX]); (try rw [hb])
  go_quiet (first | (go_at_call 21; exact HWY.out _) | fail)
  go_upto_region 2 with fail
  obtain ⟨Y, hY⟩ : ∃ Y, (X.drewN nq).drew = Y := ⟨_, rfl⟩
  have bXY : Below X.heap.size X Y := by rw [← hY]; exact (below_drewN (Below.refl _ X) nq).drew
  have HWS2 := Lib.hid (HWS.out.below bXY)
  have HOX2 := Lib.hid (only_step HOX.out bXY)
  have HV2 : Hid (ShV lo Y s (shv lf tg (.slice A na c) (.slice B mb e) (.slice C p q))) := HV.out.below bXY HLO.out
  have HLO2 : Hid (lo ≤ Y.heap.size) := Nat.le_trans HLO.out bXY.size
  have HEX2 := Lib.hid (HEX.out.below bXY)
  have hC0 : (fun w' : World => w'.cell? ⟨d.W, 0, none⟩ = some (ptr d.A) ∧ w'.cell? ⟨d.W, 5, none⟩ = some (.int .i64 (Go.Proofs.Ytmnldlhpiapalaa.mk 1 1)) ∧ w'.cell? ⟨b, 0, none⟩ = some (.bool lf) ∧ w'.cell? ⟨b, 1, none⟩ = some (.bool tg) ∧ w'.cell? ⟨b, 2, none⟩ = some (.slice A na c) ∧ w'.cell? ⟨b, 3, none⟩ = some (.slice B mb e) ∧ w'.cell? ⟨b, 4, none⟩ = some (.slice C p q)) Y := ⟨below_read bXY g0, below_read bXY g5, HEX2.out.cells⟩
  have HC0 := Lib.hid hC0
  clear hC0 g0 g5 x0 x1 x2 x3 x4 HWS HOX HV HLO HEX HWY bXY hX hb
  refine region_T (fun k => Nat.ble 15 k) (fun w' : World => w'.cell? ⟨d.W, 0, none⟩ = some (ptr d.A) ∧ w'.cell? ⟨d.W, 5, none⟩ = some (.int .i64 (Go.Proofs.Ytmnldlhpiapalaa.mk 1 1)) ∧ w'.cell? ⟨b, 0, none⟩ = some (.bool lf) ∧ w'.cell? ⟨b, 1, none⟩ = some (.bool tg) ∧ w'.cell? ⟨b, 2, none⟩ = some (.slice A na c) ∧ w'.cell? ⟨b, 3, none⟩ = some (.slice B mb e) ∧ w'.cell? ⟨b, 4, none⟩ = some (.slice C p q)) (by kernel_rfl) ?_
  rw [hY]
  clear hY
  have hC := HC0.out
  refine takeX 0 14 (v := ?_) rfl rfl (by kernel_rfl) (by kernel_rfl) (by kernel_rfl) (by kernel_rfl) (by kernel_rfl) (fun _ _ _ _ h => h) hC (by rfl) ?_ ?_
  rotate_left
  · intro w hSw; (try dsimp only at hSw); go_simp; try (with_reducible rfl)
  simp only [List.setIfInBounds_toArray, List.set_cons_zero, List.set_cons_succ]
  refine takeX 1 15 (v := ?_) rfl rfl (by kernel_rfl) (by kernel_rfl) (by kernel_rfl) (by kernel_rfl) (by kernel_rfl) (fun _ _ _ _ h => h) hC (by rfl) ?_ ?_
  rotate_left
  · intro w hSw; (try dsimp only at hSw); go_simp; try (with_reducible rfl)
  simp only [List.setIfInBounds_toArray, List.set_cons_zero, List.set_cons_succ]
  refine takeX 2 16 (v := ?_) rfl rfl (by kernel_rfl) (by kernel_rfl) (by kernel_rfl) (by kernel_rfl) (by kernel_rfl) (fun _ _ _ _ h => h) hC (by rfl) ?_ ?_
  rotate_left
  · intro w hSw; (try dsimp only at hSw); go_simp; try (with_reducible rfl)
  simp only [List.setIfInBounds_toArray, List.set_cons_zero, List.set_cons_succ]
  refine takeX 3 17 (v := ?_) rfl rfl (by kernel_rfl) (by kernel_rfl) (by kernel_rfl) (by kernel_rfl) (by kernel_rfl) (fun _ _ _ _ h => h) hC (by rfl) ?_ ?_
  rotate_left
  · intro w hSw; (try dsimp only at hSw); go_simp; try (with_reducible rfl)
  simp only [List.setIfInBounds_toArray, List.set_cons_zero, List.set_cons_succ]
  refine takeX 4 18 (v := ?_) rfl rfl (by kernel_rfl) (by kernel_rfl) (by kernel_rfl) (by kernel_rfl) (by kernel_rfl) (fun _ _ _ _ h => h) hC (by rfl) ?_ ?_
  rotate_left
  · intro w hSw; (try dsimp only at hSw); go_simp; try (with_reducible rfl)
  simp only [List.setIfInBounds_toArray, List.set_cons_zero, List.set_cons_succ]
  refine takeX 5 19 (v := ?_) rfl rfl (by kernel_rfl) (by kernel_rfl) (by kernel_rfl) (by kernel_rfl) (by kernel_rfl) (fun _ _ _ _ h => h) hC (by rfl) ?_ ?_
  rotate_left
  · intro w hSw; (try dsimp only at hSw); go_simp; try (with_reducible rfl)
  simp only [List.setIfInBounds_toArray, List.set_cons_zero, List.set_cons_succ]
  refine takeX 6 20 (v := ?_) rfl rfl (by kernel_rfl) (by kernel_rfl) (by kernel_rfl) (by kernel_rfl) (by kernel_rfl) (fun _ _ _ _ h => h) hC (by rfl) ?_ ?_
  rotate_left
  · intro w hSw; (try dsimp only at hSw); go_simp; try (with_reducible rfl)
  simp only [List.setIfInBounds_toArray, List.set_cons_zero, List.set_cons_succ]
  refine takeX 7 21 (v := ?_) rfl rfl (by kernel_rfl) (by kernel_rfl) (by kernel_rfl) (by kernel_rfl) (by kernel_rfl) (fun _ _ _ _ h => h) hC (by rfl) ?_ ?_
  rotate_left
  · intro w hSw; (try dsimp only at hSw); go_simp; try (with_reducible rfl)
  simp only [List.setIfInBounds_toArray, List.set_cons_zero, List.set_cons_succ]
  refine takeX 8 22 (v := ?_) rfl rfl (by kernel_rfl) (by kernel_rfl) (by kernel_rfl) (by kernel_rfl) (by kernel_rfl) (fun _ _ _ _ h => h) hC (by rfl) ?_ ?_
  rotate_left
  · intro w hSw; (try dsimp only at hSw); go_simp; try (with_reducible rfl)
  simp only [List.setIfInBounds_toArray, List.set_cons_zero, List.set_cons_succ]
  refine takeX 9 23 (v := ?_) rfl rfl (by kernel_rfl) (by kernel_rfl) (by kernel_rfl) (by kernel_rfl) (by kernel_rfl) (fun _ _ _ _ h => h) hC (by rfl) ?_ ?_
  rotate_left
  · intro w hSw; (try dsimp only at hSw); go_simp; try (with_reducible rfl)
  simp only [List.setIfInBounds_toArray, List.set_cons_zero, List.set_cons_succ]
  refine takeX 10 24 (v := ?_) rfl rfl (by kernel_rfl) (by kernel_rfl) (by kernel_rfl) (by kernel_rfl) (by kernel_rfl) (fun _ _ _ _ h => h) hC (by rfl) ?_ ?_
  rotate_left
  · intro w hSw; (try dsimp only at hSw); go_simp; try (with_reducible rfl)
  simp only [List.setIfInBounds_toArray, List.set_cons_zero, List.set_cons_succ]
  refine takeX 11 25 (v := ?_) rfl rfl (by kernel_rfl) (by kernel_rfl) (by kernel_rfl) (by kernel_rfl) (by kernel_rfl) (fun _ _ _ _ h => h) hC (by rfl) ?_ ?_
  rotate_left
  · intro w hSw; (try dsimp only at hSw); go_simp; try (with_reducible rfl)
  simp only [List.setIfInBounds_toArray, List.set_cons_zero, List.set_cons_succ]
  refine takeX 12 26 (v := ?_) rfl rfl (by kernel_rfl) (by kernel_rfl) (by kernel_rfl) (by kernel_rfl) (by kernel_rfl) (fun _ _ _ _ h => h) hC (by rfl) ?_ ?_
  rotate_left
  · intro w hSw; (try dsimp only at hSw); go_simp; try (with_reducible rfl)
  simp only [List.setIfInBounds_toArray, List.set_cons_zero, List.set_cons_succ]
  refine takeX 13 27 (v := ?_) rfl rfl (by kernel_rfl) (by kernel_rfl) (by kernel_rfl) (by kernel_rfl) (by kernel_rfl) (fun _ _ _ _ h => h) hC (by rfl) ?_ ?_
  rotate_left
  · intro w hSw; (try dsimp only at hSw); go_simp; try (with_reducible rfl)
  simp only [List.setIfInBounds_toArray, List.set_cons_zero, List.set_cons_succ]
  refine oneT (i := 14) (by kernel_rfl) rfl (by rfl) (fun K hK => ?_)
  go_simp
  have hmade := made_walk s.many s (Nat.le_refl _) HSM.out d FW lo Y _ _ HV2.out HLO2.out HWS2.out HFW.out rfl (ok_new (L := L) (by omega)) (by show 2 + s.many ≤ m; exact hm) (by show 2 + s.many ≤ 60000; omega)
  have hmade2 : Calls Try.prog 104 #[ptr d.A, shv lf tg (.slice A na c) (.slice B mb e) (.slice C p q)] Y fun e w' => e = .returned (.int .i64 (rootR s)) ∧ NxW d FW Y (addP (newSig m L) (s.pas 2)) w' := by
    refine hmade.mono fun e w' h => ⟨?_, h.2⟩
    rw [h.1]
    unfold rootR
    rw [show (newSig m L).ar.pls.length + s.many - 1 = 1 + s.many from by show 2 + s.many - 1 = _; omega]
  clear hmade
  refine hmade2.mono ?_
  clear hmade2
  rintro e w3 ⟨rfl, FW2, hn⟩
  have HWS3 := Lib.hid hn.1
  have HOX3 : Hid (Only FW Y w3) := hn.2.1
  have HFR3 := Lib.hid hn.2.2
  have HE3 : Hid (Shc w3 b (.bool lf) (.bool tg) (.slice A na c) (.slice B mb e) (.slice C p q)) := HEX2.out.at_ (hn.2.1.block b (Array.getElem?_eq_some_iff.1 HEX2.out).1 HNB.out)
  have hC3 := HWS3.out.cells
  rw [HEN.out] at hC3
  refine hK.out _ _ (fun _ => ⟨hC3.1, hC3.2.2.2.2.2, HE3.out.cells⟩) ?_
  clear hK K hC hn hC3
  try simp only [Act.put, List.setIfInBounds_toArray, List.set_cons_zero, List.set_cons_succ]
  refine oneT (i := 15) (by kernel_rfl) rfl (by rfl) (fun K hK => ?_)
  go_simp
  have hsw := nxW_swapWay HWS3.out (ok_addP (ok_new (L := L) (by omega)) (by rw [pas_len]; show 2 + s.many ≤ 60000; omega) (pas_cnt s 2)) (Go.Proofs.Ytmnldlhpiapalaa.mk 1 1) 0 (Go.Proofs.Ytmnldlhpiapalaa.mk 0 1) (rootR s)
  rw [plant_swap] at hsw
  refine hsw.mono ?_
  clear hsw
  rintro e w4 ⟨rfl, FW3, hn⟩
  have HWS4 := Lib.hid hn.1
  have HN4 := Lib.hid (nxW_two HOX3.out HFR3.out hn.2.1 hn.2.2)
  refine hK.out _ _ (fun h => absurd h (by decide)) ?_
  clear hK K hn
  try simp only [Act.put, List.setIfInBounds_toArray, List.set_cons_zero, List.set_cons_succ]
  refine doneT (by kernel_rfl) ?_
  have g0 := HWS4.out.cells.1
  have hfre := nxW_free HWS4.out (ok_swapped (by omega)) (Go.Proofs.Ytmnldlhpiapalaa.mk 0 1)
  rw [plant_free] at hfre
  have HFRE := Lib.hid hfre
  clear hfre HWS3 HFR3 HE3 HOX3
  go_wp2_with fail
  refine HFRE.out.mono ?_
  rintro e w5 ⟨bb, rfl, -, hn⟩
  have HE : Hid (NxW d FW w (plantSig m L s) w5) := nxW_trans HOX2.out (fun b e => .inl e) (nxW_trans HN4.out.1 HN4.out.2 hn)
  clear hn HFRE HN4 HWS4 g0
  go_wp2
  ((try simp only [Exit.inBlock, Exit.then]); refine bodyPost_end (results_none rfl _ _ _) rfl ?_)
  exact ⟨rfl, HE.out⟩
/-- A law's world: a tree, and room for more. -/
def WorldW (w : World) (m L rm : Nat) (s : Sh) (e : Ending) (w' : World) : Prop := ∃ d FW, e = .returned (ptr d.W) ∧ WS d FW w' (plantSig m L s) ∧ (∀ b, FW b → w.heap.size ≤ b) ∧ Below w.heap.size w w' ∧ d.en = Go.Proofs.Ytmnldlhpiapalaa.mk 1 1 ∧ d.m = rm
set_option maxHeartbeats 4000000 in
theorem world_walk {a b t room rec : Int} {lo : Nat} {w : World} {v : Value} {s : Sh} (hsm : s.small) (hv : ShV lo w s v) (hlo : lo ≤ w.heap.size) (ha : 2 ≤ a ∧ a ≤ 32) (hb : 2 * a - 1 ≤ b ∧ b ≤ 32) (ht : 1 ≤ t ∧ t ≤ 64) (hroom : 0 ≤ room) (hmany : (2 : Int) + s.many + room ≤ 50000) (hr : 0 ≤ rec ∧ rec ≤ 65536) :
    Calls Try.prog 40 #[.int .i64 a, .int .i64 b, .int .i64 t, v, .int .i64 room, .int .i64 rec] w (WorldW w ((2 : Int) + s.many + room).toNat t.toNat rec.toNat s) := by
  obtain ⟨lf, tg, A, na, c, B, mb, e, C, p, q, rfl⟩ := hv.form
  obtain ⟨X, bx, hX, hbx, bX, eX, sX⟩ := Shc.new w (.bool lf) (.bool tg) (.slice A na c) (.slice B mb e) (.slice C p q)
  have HV : Hid (ShV lo X s (shv lf tg (.slice A na c) (.slice B mb e) (.slice C p q))) := hv.below bX hlo
  have HLO : Hid (lo ≤ X.heap.size) := Nat.le_trans hlo bX.size
  have HM := Lib.hid (many_walk s.many s (Nat.le_refl _) (by omega) lo X _ HV.out HLO.out)
  have HBX := Lib.hid bX
  have HEX := Lib.hid eX
  have HSM := Lib.hid hsm
  have HA := Lib.hid ha
  have HB := Lib.hid hb
  have HT := Lib.hid ht
  have HR := Lib.hid hr
  obtain ⟨x0, x1, x2, x3, x4⟩ := eX.cells
  obtain ⟨M, hM⟩ : ∃ M : Int, (2 : Int) + s.many + room = M := ⟨_, rfl⟩
  have hw1 : IntKind.i64.wrap (2 + (s.many : Int)) = 2 + (s.many : Int) := IntWalk.i64_in _ (by omega)
  have hw2 : IntKind.i64.wrap (2 + (s.many : Int) + room) = M := by rw [IntWalk.i64_in _ (by omega), hM]
  have hMb : 2 ≤ M ∧ M ≤ 50000 ∧ 2 + (s.many : Int) ≤ M := by omega
  rw [hM]
  have HMB := Lib.hid hMb
  clear hv hsm hlo ha hb ht hr bX sX eX hmany hroom hMb hM
  go_enter Try.func40, Try.ntmps40
  go_wp2_with fail
  (try rw [hX]); (try rw [hbx])
  refine HM.out.mono ?_
  rintro e w1 ⟨rfl, b1⟩
  clear HM
  have HE1 := Lib.hid (HEX.out.below b1)
  have HV1 : Hid (ShV lo w1 s (shv lf tg (.slice A na c) (.slice B mb e) (.slice C p q))) := HV.out.below b1 HLO.out
  have HB1 : Hid (Below w.heap.size w w1) := HBX.out.trans (b1.mono HBX.out.size)
  have HLO1 : Hid (lo ≤ w1.heap.size) := Nat.le_trans HLO.out b1.size
  have HN := Lib.hid (new_ok (a := a) (b := b) (t := t) (n := M) (r := rec) w1 HA.out HB.out HT.out (by have := HMB.out; omega) HR.out)
  clear HBX HEX HV HLO b1 x0 x1 x2 x3 x4 hX hbx
  go_wp2_with fail
  refine HN.out.mono ?_
  clear HN
  rintro e w2 ⟨d, FW, rfl, h1, h2, h3, h4, h5, h6, h7⟩
  have HE2 := Lib.hid (HE1.out.below h3)
  have HV2 : Hid (ShV lo w2 s (shv lf tg (.slice A na c) (.slice B mb e) (.slice C p q))) := HV1.out.below h3 HLO1.out
  have HLO2 : Hid (lo ≤ w2.heap.size) := Nat.le_trans HLO1.out h3.size
  have HB2 : Hid (Below w.heap.size w w2) := HB1.out.trans (h3.mono HB1.out.size)
  have HF2 : Hid (∀ b, FW b → w.heap.size ≤ b) := fun b f => Nat.le_trans HB1.out.size (h2 b f)
  have HPL := Lib.hid (plant_walk HSM.out HV2.out HLO2.out h1 (fun b f => Nat.le_trans HLO1.out (h2 b f)) h6 (by have := HMB.out; omega) (by have := HMB.out; omega))
  have H6 := Lib.hid h6
  have H7 := Lib.hid h7
  have hne : (2 : Int) = 2 := rfl
  obtain ⟨y0, y1, y2, y3, y4⟩ := HE2.out.cells
  clear h1 h2 h3 h4 h5 h6 h7 HE1 HV1 HB1 HLO1 hne
  go_wp2_with fail
  refine HPL.out.mono ?_
  rintro e w3 ⟨rfl, FW2, k1, k2, k3⟩
  have HE : Hid (WorldW w M.toNat t.toNat rec.toNat s (.returned (ptr d.W)) w3) :=
    ⟨d, FW2, rfl, k1, fun b f => (k3 b f).elim (HF2.out b) fun f => Nat.le_trans HB2.out.size f, HB2.out.trans (k2.below (fun b f => HF2.out b f) HB2.out.size), H6.out, H7.out⟩
  clear HPL k1 k2 k3 HE2 HV2 y0 y1 y2 y3 y4
  go_wp2
  go_ret
  exact HE.out
end Go.Proofs.Ytmnldlhpiapalaa
