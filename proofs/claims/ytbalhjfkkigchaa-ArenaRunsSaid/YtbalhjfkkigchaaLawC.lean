/-
  The law ArenaSwaps.
-/
import Derived.Test.YtbalhjfkkigchaaLawB
namespace Go.Proofs.Ytbalhjfkkigchaa
open Go.ChangeShapes Go.WideShapes Go.ChangeAt Go.RowKit
set_option linter.unusedVariables false
set_option linter.unusedSimpArgs false
set_option maxRecDepth 20000

theorem sl_cells {W : World} {g : Nat} {t : TypeId} (zs : List Int) (h : W.heap[g]? = some (.cells (zs.map (Value.int .i64)).toArray t (0, 0))) : Sl W (some ⟨g, 0, none⟩) zs.length zs.length zs := by
  refine ⟨rfl, Nat.le_refl _, fun e => (by cases e), .inr ⟨g, 0, rfl, fun j u hj => ?_⟩⟩
  rw [cell_of_row W g _ _ t (0, 0) h, Nat.zero_add]
  simp [hj]

def swapNd (o : Int) : Nd := ⟨true, false, [], [1, 2], [o, o, o]⟩
def swapP (ws : List Int) (o inf : Int) : Pa := ⟨true, 1, swapNd o, ws, inf, false⟩
def swapS (ws : List Int) (o inf : Int) : As := ⟨3, [swapP ws o inf], [], 0⟩
theorem swapS_ok (ws : List Int) (o inf : Int) : Ok (swapS ws o inf) := ⟨by simp [swapS], fun p hp => by simp [swapS] at hp; subst hp; simp [swapP], by simp [swapS], by simp [swapS]⟩
theorem swapW {o x : Int} {j : Nat} (hj : j < 3) : wayAt (swapP [o, o, o] o 0) (j : Int) = o ∧ ([o, o, o].set j x).length = 3 := by
  refine ⟨?_, by simp⟩
  match j, hj with
  | 0, _ => rfl
  | 1, _ => rfl
  | 2, _ => rfl
theorem swapX {o x inf : Int} {j : Nat} (hj : j < 3) : wayAt (swapP ([o, o, o].set j x) o inf) (j : Int) = x ∧ wayAt (swapP ([o, o, o].set j x) o inf) (((j + 1) % 3 : Nat) : Int) = o := by
  match j, hj with
  | 0, _ => exact ⟨rfl, rfl⟩
  | 1, _ => exact ⟨rfl, rfl⟩
  | 2, _ => exact ⟨rfl, rfl⟩

/-- The node that the law hands in. -/
theorem swap_rd (w : World) (o : Int) : ∃ (W : World) (g : Nat), (w.alloc (.cells #[.int .i64 o, .int .i64 o, .int .i64 o] 46)).alloc (.cells #[.int .i64 1, .int .i64 2] 2) = W ∧ w.heap.size + 1 = g ∧ Below w.heap.size w W ∧ RdN w.heap.size W (ndv true false (.slice none 0 0) (.slice (some ⟨g, 0, none⟩) 2 2) (.slice (some ⟨w.heap.size, 0, none⟩) 3 3)) (swapNd o) := by
  refine ⟨_, _, rfl, rfl, ((Below.refl _ w).alloc (Nat.le_refl _) _).alloc (by simp) _, none, 0, some ⟨w.heap.size + 1, 0, none⟩, 2, some ⟨w.heap.size, 0, none⟩, 3, rfl, Lp.nil _, sl_cells [1, 2] (h_new (by simp)), sl_cells [o, o, o] (h_old (h_new rfl)), ?_⟩
  rintro ad (e | e | e)
  · cases e
  · injection e with e; subst e; simp
  · injection e with e; subst e; simp

set_option maxHeartbeats 4000000 in
theorem arenaSwaps_walk (o x y : Int) (t : Nat) (w : World) (ht : t < 256) :
    Calls Try.prog 7 #[.int .i64 o, .int .i64 x, .int .i64 y, .int .u8 (t : Int)] w fun e w' => e = .returned (.bool true) ∧ Below w.heap.size w w' := by
  by_cases hxo : x = o
  · subst hxo
    have h0 : (x == x) = true := by simp
    go_enter Try.func7, Try.ntmps7
    go_wp2_with fail
    refine (awake_walk _).mono ?_
    rintro e w1 ⟨rfl, hb1⟩
    go_wp2
    go_ret
    exact ⟨rfl, hb1⟩
  have hxo2 : (x == o) = false := by simpa using hxo
  obtain ⟨j, hj⟩ : ∃ j : Nat, t % 3 = j := ⟨_, rfl⟩
  have hj3 : j < 3 := by omega
  have HJ := Lib.hid hj
  go_enter Try.func7, Try.ntmps7
  go_wp2_with fail
  refine (awake_walk _).mono ?_
  rintro e w1 ⟨rfl, hb1⟩
  go_wp2_with fail
  refine (new_walk 3 w1).mono ?_
  rintro e w2 ⟨rfl, h2, b2⟩
  rw [show mostOf 3 = 3 from rfl] at h2
  have H2 := Lib.hid h2
  have l2 := h2.lt
  have hb2 := hb1.trans (b2.mono hb1.size)
  have ha1 : w.heap.size ≤ w1.heap.size := hb1.size
  clear h2 b2
  generalize w1.heap.size = a at *
  go_wp2_with fail
  obtain ⟨W, g, hW, hg, hbW, rd⟩ := swap_rd w2 o
  (try rw [hW]); (try rw [hg])
  clear hW hg
  refine (alloc_yes (H2.out.below hbW) ⟨by simp [As.new], by simp [As.new], by simp [As.new], by simp [As.new]⟩ (by simp [As.new]) 0 ⟨Pa.nil, rfl, rfl⟩ (by omega) rd l2 ⟨by simp [swapNd], by simp [swapNd], by simp [swapNd]⟩).mono ?_
  rintro e w3 ⟨rfl, h3⟩
  have hbW2 := hb2.trans (hbW.mono hb2.size)
  obtain ⟨h3, b3⟩ := h3.high (B := w.heap.size) (fun b e => by omega) hbW2.size
  rw [show (As.new 3).next.1 = 0 from rfl, show mk ((0 : Nat) : Int) ((0 + 1 : Nat) : Int) = 1099511627777 from mk11]
  have h3' : High w.heap.size w3 a (swapS [o, o, o] o 0) := h3
  obtain ⟨F3, A3, f3, l3⟩ := h3'.lt
  have H3 := Lib.hid A3
  have hb3 := hbW2.trans b3
  clear h3 h3' b3 A3 rd hbW H2
  have hjt : (t : Int) % 3 = (j : Int) := by omega
  have HJT := Lib.hid hjt
  clear hjt hj
  go_wp2_with fail
  rw [HJT.out]
  refine (swapWay_do H3.out (swapS_ok _ _ _) (i := 0) (p := swapP [o, o, o] o 0) rfl rfl mk11 j o x (by simpa [swapP] using hj3) (swapW (x := x) hj3).1).mono ?_
  rintro e w4 ⟨rfl, h4, o4⟩
  have H4 : Hid (Arn false F3 w4 a (swapS ([o, o, o].set j x) o 0)) := h4
  have b4 := o4.below f3 hb3.size
  have hb4 := hb3.trans b4
  clear h4 o4 b4 H3
  go_wp2_with fail
  refine (swapWay_not H4.out (swapS_ok _ _ _) (i := 0) (p := swapP ([o, o, o].set j x) o 0) rfl rfl mk11 j o y (fun h => hxo (by rw [← h.2]; exact (swapX hj3).1.symm))).mono ?_
  rintro e w5 ⟨rfl, rfl⟩
  go_wp2_with fail
  refine (look_yes H4.out (swapS_ok _ _ _) (i := 0) (p := swapP ([o, o, o].set j x) o 0) rfl rfl mk11).mono ?_
  rintro e w5 ⟨pv, kv, zv, rfl, -, -, r3, b5⟩
  have H5 := Lib.hid (H4.out.below b5)
  have hb5 := hb4.trans (b5.mono hb4.size)
  obtain ⟨A, c, rfl, sl⟩ := r3.form
  obtain ⟨gz, off, hA, hgl, hc⟩ := sl.at_ (k := j) (by simpa [swapP, swapNd] using hj3)
  have hco : w5.cell? ⟨gz, off + j, none⟩ = some (.int .i64 o) := by
    rw [hc]
    match j, hj3 with
    | 0, _ => rfl
    | 1, _ => rfl
    | 2, _ => rfl
  subst hA
  have hlen : (swapP ([o, o, o].set j x) o 0).nd.zs.length = 3 := rfl
  rw [hlen]
  clear r3 sl hc b5 H4 hlen
  have f1 := field_ways (swapP ([o, o, o].set j x) o 0).nd.inn (swapP ([o, o, o].set j x) o 0).nd.tag pv kv (.slice (some ⟨gz, off, none⟩) 3 c)
  have f2 := field_ways2 kv (.slice (some ⟨gz, off, none⟩) 3 c)
  have i0 : (0 : Int) ≤ (j : Int) := by omega
  have i1 : (j : Int) < 3 := by omega
  have hxx : (x != x) = false := by simp
  have hoo : (o != o) = false := by simp
  have hjw : IntKind.i64.wrap ((j : Int) + 1) = (j : Int) + 1 := IntWalk.i64_in _ (by omega)
  go_wp2_with fail
  refine (way_yes H5.out (swapS_ok _ _ _) (i := 0) (p := swapP ([o, o, o].set j x) o 0) rfl rfl mk11 j).mono ?_
  rintro e w6 ⟨rfl, rfl⟩
  rw [(swapX hj3).1]
  go_wp2_with fail
  have hmod : ((j : Int) + 1).tmod 3 = (((j + 1) % 3 : Nat) : Int) := by rw [Int.tmod_eq_emod_of_nonneg (by omega)]; omega
  (first | rw [hmod] | (rw [show ((j : Int) + 1) % 3 = (((j + 1) % 3 : Nat) : Int) from by omega]))
  refine (way_yes H5.out (swapS_ok _ _ _) (i := 0) (p := swapP ([o, o, o].set j x) o 0) rfl rfl mk11 _).mono ?_
  rintro e w6 ⟨rfl, rfl⟩
  rw [(swapX hj3).2]
  clear hmod
  by_cases ho : o = 0
  · subst ho
    go_wp2_with fail
    refine (swapInfo_yes H5.out (swapS_ok _ _ _) (i := 0) (p := swapP ([0, 0, 0].set j x) 0 0) rfl rfl mk11 0 x rfl).mono ?_
    rintro e w6 ⟨rfl, h6, o6⟩
    have H6 : Hid (Arn false F3 w6 a (swapS ([0, 0, 0].set j x) 0 x)) := h6
    have hb6 := hb5.trans (o6.below f3 hb5.size)
    clear h6 o6
    go_wp2_with fail
    refine (swapInfo_not H6.out (swapS_ok _ _ _) (i := 0) (p := swapP ([0, 0, 0].set j x) 0 x) rfl rfl mk11 0 y hxo).mono ?_
    rintro e w7 ⟨rfl, rfl⟩
    go_wp2_with fail
    refine (info_yes H6.out (swapS_ok _ _ _) (i := 0) (p := swapP ([0, 0, 0].set j x) 0 x) rfl rfl mk11).mono ?_
    rintro e w7 ⟨rfl, rfl⟩
    rw [show (swapP ([0, 0, 0].set j x) 0 x).info = x from rfl]
    have hx3 : (x == x) = true := by simp
    go_wp2_with fail
    obtain ⟨l, P, Q, hAr⟩ := H6.out
    refine (faults_walk hAr).mono ?_
    rintro e w7 ⟨rfl, rfl⟩
    clear hAr
    rw [show ((swapS ([0, 0, 0].set j x) 0 x).flt : Int) = 0 from rfl]
    go_wp2
    go_ret
    exact ⟨rfl, hb6⟩
  · have ho2 : (o != 0) = true := by simpa using ho
    go_wp2_with fail
    refine (swapInfo_yes H5.out (swapS_ok _ _ _) (i := 0) (p := swapP ([o, o, o].set j x) o 0) rfl rfl mk11 0 o rfl).mono ?_
    rintro e w6 ⟨rfl, h6, o6⟩
    have H6 : Hid (Arn false F3 w6 a (swapS ([o, o, o].set j x) o o)) := h6
    have hb6 := hb5.trans (o6.below f3 hb5.size)
    clear h6 o6 H5
    go_wp2_with fail
    refine (swapInfo_yes H6.out (swapS_ok _ _ _) (i := 0) (p := swapP ([o, o, o].set j x) o o) rfl rfl mk11 o x rfl).mono ?_
    rintro e w7 ⟨rfl, h7, o7⟩
    have H7 : Hid (Arn false F3 w7 a (swapS ([o, o, o].set j x) o x)) := h7
    have hb7 := hb6.trans (o7.below f3 hb6.size)
    clear h7 o7 H6
    go_wp2_with fail
    refine (swapInfo_not H7.out (swapS_ok _ _ _) (i := 0) (p := swapP ([o, o, o].set j x) o x) rfl rfl mk11 o y hxo).mono ?_
    rintro e w8 ⟨rfl, rfl⟩
    go_wp2_with fail
    refine (info_yes H7.out (swapS_ok _ _ _) (i := 0) (p := swapP ([o, o, o].set j x) o x) rfl rfl mk11).mono ?_
    rintro e w8 ⟨rfl, rfl⟩
    rw [show (swapP ([o, o, o].set j x) o x).info = x from rfl]
    have hx3 : (x == x) = true := by simp
    go_wp2_with fail
    obtain ⟨l, P, Q, hAr⟩ := H7.out
    refine (faults_walk hAr).mono ?_
    rintro e w8 ⟨rfl, rfl⟩
    clear hAr
    rw [show ((swapS ([o, o, o].set j x) o x).flt : Int) = 0 from rfl]
    go_wp2
    go_ret
    exact ⟨rfl, hb7⟩
end Go.Proofs.Ytbalhjfkkigchaa
