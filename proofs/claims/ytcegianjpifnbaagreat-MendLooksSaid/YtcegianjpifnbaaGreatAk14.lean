/-
  The laws' fixed fact: in a world that is new nothing is wrong on the way to a key: one touch.
-/
import Derived.Test.YtcegianjpifnbaaGreatMr14
import Derived.Test.YtcegianjpifnbaaGreatAw11
namespace Go.Proofs.YtcegianjpifnbaaGreat
open Go.ChangeShapes Go.WideShapes Go.ChangeAt Go.RowKit
set_option linter.unusedVariables false
set_option linter.unusedSimpArgs false
set_option maxRecDepth 20000

theorem path_new5 : pathS ndsB 5 (newSig 9 1) 2 (mk 1 1) = [⟨mk 1 1, ndE, 0⟩, ⟨mk 0 1, Nd.nil, 0⟩] := by rfl
/-- In a world that is new nothing is wrong, whatever the ways tell. -/
theorem rets_new (da key en : Int) (he : en = mk 1 1) : rets (fun l => RightL da l) (tPath ndsB rkB key 2 en []) := by
  have hnil : RightL da [] := fun i x h => by simp at h
  have h2 : ∀ wy wy' : Int, RightL da ([(⟨mk 1 1, ndE, wy⟩ : Sp)] ++ [⟨mk 0 1, Nd.nil, wy'⟩]) := by
    intro wy wy' i x h hi
    match i, h with
    | 1, h =>
      simp at h
      subst h
      rfl
    | (i + 2), h => simp at h
  have h1 : ∀ wy' : Int, RightL da [(⟨mk 0 1, Nd.nil, wy'⟩ : Sp)] := by
    intro wy' i x h hi
    match i, h with
    | (i + 1), h => simp at h
  subst he
  unfold tPath
  show rets _ (if rkB (mk 1 1) ≤ 1 then (if ndE.inn = true then _ else _) else _)
  rw [if_pos (by decide), if_pos (by rfl)]
  intro z
  show rets (fun l => RightL da l) (tPath ndsB rkB key 1 z _)
  unfold tPath
  split
  · exact fun _ => hnil
  · rename_i nd hl
    split
    · rename_i hr
      have hz : (z, nd) ∈ ndsB := lookup_mem hl
      simp only [List.mem_cons, List.not_mem_nil, or_false, Prod.mk.injEq] at hz
      rcases hz with ⟨rfl, rfl⟩ | ⟨rfl, rfl⟩
      · exact absurd hr (by decide)
      · rw [if_neg (by decide)]
        exact h2 _ _
    · exact fun _ => hnil
set_option maxHeartbeats 4000000 in
theorem awake14_walk (w : World) : Calls Tryz.prog 5 #[] w fun e w' => e = .returned (.bool true) ∧ Below w.heap.size w w' := by
  have HN := Lib.hid (new_ok (a := 2) (b := 3) (t := 1) (n := 9) (r := 9) w (by omega) (by omega) (by omega) (by omega) (by omega))
  go_enter Tryz.func5, Tryz.ntmps5
  go_wp2_with fail
  refine HN.out.mono ?_
  intro e v1 hP
  have hP : NewW w 2 3 9 1 9 e v1 := hP
  obtain ⟨d, rfl, -, -, hen, hm, hO⟩ := Ow.new (Below.refl w.heap.size w) hP
  have HM : Hid (MB w (fun _ => False) d 0 0 h0 o0 (newSig 9 1) v1) := ⟨ME.none_ (hO.idle.mono fun b e => e.elim id fun e => e.elim), hO.below⟩
  have HEN := Lib.hid hen
  have hok : Ok1 ndsB rkB 1 d.en := by rw [hen]; exact ⟨rfl, by decide⟩
  have HL := Lib.hid (HM.out.mender (nds := ndsB) (rk := rkB) (M := 9) (mo := 9) (D := 1) (key := 5) ndsB_ok (by omega) (by omega) (rets_new d.a 5 d.en hen) hok)
  have HOK := Lib.hid hok
  clear HN hP hO hm hen hok
  go_wp2_with fail
  refine HL.out.mono ?_
  rintro e u1 ⟨a, b, rfl, hM1, hb1⟩
  have hp5 : pathS ndsB 5 (newSig 9 1) 2 d.en = [⟨mk 1 1, ndE, 0⟩, ⟨mk 0 1, Nd.nil, 0⟩] := by rw [HEN.out]; exact path_new5
  have HA := Lib.hid (hM1.aloneW (i := 0) (N := 20) (K := K0) (r := d.en) (f := 1) (acc := []) (key := 5) (v := [0]) (k := 1) (kz := 1) (by omega) (upd_at ..) (by rw [upd_at]) ski_new fit_new HOK.out rfl (by rw [hp5]; rfl) (by omega) (by omega) (by simp) rfl)
  rw [upd_at] at HA
  clear HL hM1 hb1 HM hp5
  go_wp2_with fail
  refine HA.out.mono ?_
  rintro e u2 ⟨A, q, c, rfl, h1, h2, h3⟩
  have hC0 := h2.came (i := 0) (z := 0) (by omega) (upd_at ..)
  rw [upd_at] at hC0
  have HC := Lib.hid hC0
  have HE := Lib.hid h2.bel
  clear HA h1 h2 h3 hC0
  go_wp2_with fail
  refine HC.out.mono ?_
  rintro e u3 ⟨rfl, hb3⟩
  have HE3 := Lib.hid (HE.out.trans (hb3.mono HE.out.size))
  clear HC HE hb3
  go_wp2_with fail
  refine (look_walk (x := false) (y := false) (root := false) u3).mono ?_
  rintro e u4 ⟨rfl, hb4⟩
  have HE4 := Lib.hid (HE3.out.trans (hb4.mono HE3.out.size))
  clear HE3 hb4
  go_wp2
  go_ret
  exact ⟨rfl, HE4.out⟩
end Go.Proofs.YtcegianjpifnbaaGreat
