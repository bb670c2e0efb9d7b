/-
  The laws' fixed fact: a leaf that nobody is at is Seen in five touches.
-/
import Derived.Test.YtoeilogakfggfaaTj10
namespace Go.Proofs.Ytoeilogakfggfaa
open Go.ChangeShapes Go.WideShapes Go.ChangeAt Go.RowKit
set_option linter.unusedVariables false
set_option linter.unusedSimpArgs false
set_option maxRecDepth 20000

abbrev ndsA : List (Int × Nd) := [(mk 0 1, Nd.nil)]
theorem stt_new : Stt ndsA 9 (newSig 9 1) := by
  refine ⟨fun x hx => ?_, fun x hx => (by simp [newSig] at hx), Nat.zero_le _, fun p hp z hz => ?_, by simp [newSig], fun p hp => ?_⟩
  · obtain rfl : x = (mk 0 1, Nd.nil) := by simpa using hx
    exact ⟨0, rootPa, by rfl, rfl⟩
  · simp only [newSig, List.mem_cons, List.not_mem_nil, or_false] at hp
    rcases hp with rfl | rfl
    · cases hz
    · simp only [entryPa, List.mem_cons, List.not_mem_nil, or_false] at hz
      subst hz
      have := mk_range 0 1
      unfold in64; omega
  · simp only [newSig, List.mem_cons, List.not_mem_nil, or_false] at hp
    rcases hp with rfl | rfl
    · simp only [rootPa]; omega
    · simp only [entryPa]; omega
theorem ev_awake : ev (tLook (mk 0 1) Nd.nil) (newSig 9 1) = ([0, 0], newSig 9 1, 5) := by rfl
set_option maxHeartbeats 4000000 in
theorem awake10_walk (w : World) : Calls Try.prog 19 #[] w fun e w' => e = .returned (.bool true) ∧ Below w.heap.size w w' := by
  have HN := Lib.hid (new_ok (a := 2) (b := 3) (t := 1) (n := 9) (r := 9) w (by omega) (by omega) (by omega) (by omega) (by omega))
  go_enter Try.func19, Try.ntmps19
  go_wp2_with fail
  refine HN.out.mono ?_
  intro e v1 hP
  have hP : NewW w 2 3 9 1 9 e v1 := hP
  obtain ⟨d, rfl, -, -, hen, hm, hO⟩ := Ow.new (Below.refl w.heap.size w) hP
  have HM : Hid (MB w (fun _ => False) d 0 0 h0 o0 (newSig 9 1) v1) := ⟨ME.none_ (hO.idle.mono fun b e => e.elim id fun e => e.elim), hO.below⟩
  have HR := Lib.hid (of_walk 0 1 (by omega) v1)
  clear HN hP hO hm hen
  go_wp2_with fail
  refine HR.out.mono ?_
  rintro e u0 ⟨rfl, rfl⟩
  obtain ⟨r0, hr0⟩ : ∃ r0, mk 0 1 = r0 := ⟨_, rfl⟩
  have HL := Lib.hid (HM.out.looker (nds := ndsA) (Mx := 9) (r := mk 0 1) (nd := Nd.nil) (by simp) (by unfold Nd.small Nd.nil; simp) (by omega))
  rw [hr0] at HL
  have HR0 := Lib.hid hr0
  (try rw [hr0])
  clear HR hr0
  go_wp2_with fail
  refine HL.out.mono ?_
  rintro e u1 ⟨a, b, rfl, hM1, hb1⟩
  have hM1 : MB w (fun q => False ∨ q = b) d 1 0 (upd h0 0 ⟨a, 0, lookF, #[ptr b], tLook (mk 0 1) Nd.nil, Stt ndsA 9⟩) (upd o0 0 (.run (nrm (tLook (mk 0 1) Nd.nil) (newSig 9 1)))) (newSig 9 1) u1 := by rw [HR0.out]; exact hM1
  have HA := Lib.hid (hM1.alone (i := 0) (M := 20) (L := 1) (nds := ndsA) (Mx := 9) (by omega) (upd_at ..) (by rw [upd_at]) (inv_new 9 1 21 (by omega) (by omega) (by omega)) stt_new (tj_look _ _) (kl_look _ _) (good_look _ _ _) ev_awake (by omega) (by omega) (by simp) (kz := 5) (by decide))
  rw [upd_at] at HA
  clear HL hM1 hb1 HM HR0
  go_wp2_with fail
  refine HA.out.mono ?_
  rintro e u2 ⟨A, q, c, rfl, h1, h2, h3⟩
  have hs := h1.sl
  obtain rfl : q = 2 := hs.len
  obtain ⟨g, off, rfl, hg, hc0⟩ := hs.at_ (k := 0) (by simp)
  obtain ⟨g', off', hgo, hg', hc1⟩ := hs.at_ (k := 1) (by simp)
  injection hgo with hgo
  injection hgo with e1 e2
  subst e1 e2
  have hc0 : u2.cell? ⟨g, off, none⟩ = some (.int .i64 0) := hc0
  have hc1 : u2.cell? ⟨g, off + 1, none⟩ = some (.int .i64 0) := hc1
  have HE := Lib.hid h2.bel
  clear HA h1 h2 h3 hs hg hg'
  go_wp2
  go_ret
  exact ⟨rfl, HE.out⟩
end Go.Proofs.Ytoeilogakfggfaa
