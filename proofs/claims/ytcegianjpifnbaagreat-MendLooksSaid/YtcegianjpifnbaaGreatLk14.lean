/-
  The law that Look tells what is wrong with a node: its walk.
-/
import Derived.Test.YtcegianjpifnbaaGreatAk14
namespace Go.Proofs.YtcegianjpifnbaaGreat
open Go.ChangeShapes Go.WideShapes Go.ChangeAt Go.RowKit
set_option linter.unusedVariables false
set_option linter.unusedSimpArgs false
set_option maxRecDepth 20000

section
variable {A B C : Option Addr} {n c m d p q : Nat} {a : Int}
set_option maxHeartbeats 2000000 in
theorem looks_ttt (w : World) : Calls Tryz.prog 3 #[.int .i64 a, ndv true true (.slice A n c) (.slice B m d) (.slice C p q), .bool true] w fun e w' => e = .returned (.bool true) ∧ Below w.heap.size w w' := by
  obtain ⟨W, b0, hW, hb0, hbW, h5⟩ := boxedA w true true (.slice A n c) (.slice B m d) (.slice C p q)
  have HBw := Lib.hid hbW
  have H5 := Lib.hid h5
  have HA := Lib.hid (awake14_walk W)
  clear hbW h5
  go_enter Tryz.func3, Tryz.ntmps3
  go_wp2_with fail
  (try rw [hW]); (try rw [hb0]); clear hW hb0
  go_wp2_with fail
  refine HA.out.mono ?_
  rintro e w1 ⟨rfl, h1⟩
  have HB1 := Lib.hid (HBw.out.trans (h1.mono HBw.out.size))
  obtain ⟨b1, b2, b3, b4, b5⟩ := (H5.out.below h1).cells
  clear HA HBw H5 h1
  by_cases g1 : (40 : Int) < (n : Int)
  · go_wp2
    go_ret
    exact ⟨rfl, HB1.out⟩
  by_cases g2 : (40 : Int) < (p : Int)
  · go_wp2
    go_ret
    exact ⟨rfl, HB1.out⟩
  have HL : Hid (lookW a true true n p true = 1) := by show lookW _ _ _ _ _ _ = _; simp [lookW, sizeW, leastW]
  go_wp2_with fail
  refine (look_walk (x := true) (y := true) (root := true) w1).mono ?_
  rintro e w2 ⟨rfl, h2⟩
  rw [HL.out]
  have HB2 := Lib.hid (HB1.out.trans (h2.mono HB1.out.size))
  clear h2 HB1 b1 b2 b3 b4 b5
  go_wp2
  go_ret
  exact ⟨rfl, HB2.out⟩
set_option maxHeartbeats 2000000 in
theorem looks_ttf (w : World) : Calls Tryz.prog 3 #[.int .i64 a, ndv true true (.slice A n c) (.slice B m d) (.slice C p q), .bool false] w fun e w' => e = .returned (.bool true) ∧ Below w.heap.size w w' := by
  obtain ⟨W, b0, hW, hb0, hbW, h5⟩ := boxedA w true true (.slice A n c) (.slice B m d) (.slice C p q)
  have HBw := Lib.hid hbW
  have H5 := Lib.hid h5
  have HA := Lib.hid (awake14_walk W)
  clear hbW h5
  go_enter Tryz.func3, Tryz.ntmps3
  go_wp2_with fail
  (try rw [hW]); (try rw [hb0]); clear hW hb0
  go_wp2_with fail
  refine HA.out.mono ?_
  rintro e w1 ⟨rfl, h1⟩
  have HB1 := Lib.hid (HBw.out.trans (h1.mono HBw.out.size))
  obtain ⟨b1, b2, b3, b4, b5⟩ := (H5.out.below h1).cells
  clear HA HBw H5 h1
  by_cases g1 : (40 : Int) < (n : Int)
  · go_wp2
    go_ret
    exact ⟨rfl, HB1.out⟩
  by_cases g2 : (40 : Int) < (p : Int)
  · go_wp2
    go_ret
    exact ⟨rfl, HB1.out⟩
  have HL : Hid (lookW a true true n p false = 1) := by show lookW _ _ _ _ _ _ = _; simp [lookW, sizeW, leastW]
  go_wp2_with fail
  refine (look_walk (x := true) (y := true) (root := false) w1).mono ?_
  rintro e w2 ⟨rfl, h2⟩
  rw [HL.out]
  have HB2 := Lib.hid (HB1.out.trans (h2.mono HB1.out.size))
  clear h2 HB1 b1 b2 b3 b4 b5
  go_wp2
  go_ret
  exact ⟨rfl, HB2.out⟩
set_option maxHeartbeats 2000000 in
theorem looks_tft (w : World) : Calls Tryz.prog 3 #[.int .i64 a, ndv true false (.slice A n c) (.slice B m d) (.slice C p q), .bool true] w fun e w' => e = .returned (.bool true) ∧ Below w.heap.size w w' := by
  obtain ⟨W, b0, hW, hb0, hbW, h5⟩ := boxedA w true false (.slice A n c) (.slice B m d) (.slice C p q)
  have HBw := Lib.hid hbW
  have H5 := Lib.hid h5
  have HA := Lib.hid (awake14_walk W)
  clear hbW h5
  go_enter Tryz.func3, Tryz.ntmps3
  go_wp2_with fail
  (try rw [hW]); (try rw [hb0]); clear hW hb0
  go_wp2_with fail
  refine HA.out.mono ?_
  rintro e w1 ⟨rfl, h1⟩
  have HB1 := Lib.hid (HBw.out.trans (h1.mono HBw.out.size))
  obtain ⟨b1, b2, b3, b4, b5⟩ := (H5.out.below h1).cells
  clear HA HBw H5 h1
  by_cases g1 : (40 : Int) < (n : Int)
  · go_wp2
    go_ret
    exact ⟨rfl, HB1.out⟩
  by_cases g2 : (40 : Int) < (p : Int)
  · go_wp2
    go_ret
    exact ⟨rfl, HB1.out⟩
  by_cases g3 : (p : Int) < 2
  · have HL : Hid (lookW a true false n p true = 2) := by show lookW _ _ _ _ _ _ = _; simp [lookW, sizeW, leastW]; omega
    go_wp2_with fail
    refine (look_walk (x := true) (y := false) (root := true) w1).mono ?_
    rintro e w2 ⟨rfl, h2⟩
    rw [HL.out]
    have HB2 := Lib.hid (HB1.out.trans (h2.mono HB1.out.size))
    clear h2 HB1 b1 b2 b3 b4 b5
    go_wp2
    go_ret
    exact ⟨rfl, HB2.out⟩
  · have HL : Hid (lookW a true false n p true = 0) := by show lookW _ _ _ _ _ _ = _; simp [lookW, sizeW, leastW]; omega
    go_wp2_with fail
    refine (look_walk (x := true) (y := false) (root := true) w1).mono ?_
    rintro e w2 ⟨rfl, h2⟩
    rw [HL.out]
    have HB2 := Lib.hid (HB1.out.trans (h2.mono HB1.out.size))
    clear h2 HB1 b1 b2 b3 b4 b5
    go_wp2
    go_ret
    exact ⟨rfl, HB2.out⟩
set_option maxHeartbeats 2000000 in
theorem looks_tff (w : World) : Calls Tryz.prog 3 #[.int .i64 a, ndv true false (.slice A n c) (.slice B m d) (.slice C p q), .bool false] w fun e w' => e = .returned (.bool true) ∧ Below w.heap.size w w' := by
  obtain ⟨W, b0, hW, hb0, hbW, h5⟩ := boxedA w true false (.slice A n c) (.slice B m d) (.slice C p q)
  have HBw := Lib.hid hbW
  have H5 := Lib.hid h5
  have HA := Lib.hid (awake14_walk W)
  clear hbW h5
  go_enter Tryz.func3, Tryz.ntmps3
  go_wp2_with fail
  (try rw [hW]); (try rw [hb0]); clear hW hb0
  go_wp2_with fail
  refine HA.out.mono ?_
  rintro e w1 ⟨rfl, h1⟩
  have HB1 := Lib.hid (HBw.out.trans (h1.mono HBw.out.size))
  obtain ⟨b1, b2, b3, b4, b5⟩ := (H5.out.below h1).cells
  clear HA HBw H5 h1
  by_cases g1 : (40 : Int) < (n : Int)
  · go_wp2
    go_ret
    exact ⟨rfl, HB1.out⟩
  by_cases g2 : (40 : Int) < (p : Int)
  · go_wp2
    go_ret
    exact ⟨rfl, HB1.out⟩
  by_cases g3 : (p : Int) < a
  · have HL : Hid (lookW a true false n p false = 2) := by show lookW _ _ _ _ _ _ = _; simp [lookW, sizeW, leastW]; omega
    go_wp2_with fail
    refine (look_walk (x := true) (y := false) (root := false) w1).mono ?_
    rintro e w2 ⟨rfl, h2⟩
    rw [HL.out]
    have HB2 := Lib.hid (HB1.out.trans (h2.mono HB1.out.size))
    clear h2 HB1 b1 b2 b3 b4 b5
    go_wp2
    go_ret
    exact ⟨rfl, HB2.out⟩
  · have HL : Hid (lookW a true false n p false = 0) := by show lookW _ _ _ _ _ _ = _; simp [lookW, sizeW, leastW]; omega
    go_wp2_with fail
    refine (look_walk (x := true) (y := false) (root := false) w1).mono ?_
    rintro e w2 ⟨rfl, h2⟩
    rw [HL.out]
    have HB2 := Lib.hid (HB1.out.trans (h2.mono HB1.out.size))
    clear h2 HB1 b1 b2 b3 b4 b5
    go_wp2
    go_ret
    exact ⟨rfl, HB2.out⟩
set_option maxHeartbeats 2000000 in
theorem looks_ftt (w : World) : Calls Tryz.prog 3 #[.int .i64 a, ndv false true (.slice A n c) (.slice B m d) (.slice C p q), .bool true] w fun e w' => e = .returned (.bool true) ∧ Below w.heap.size w w' := by
  obtain ⟨W, b0, hW, hb0, hbW, h5⟩ := boxedA w false true (.slice A n c) (.slice B m d) (.slice C p q)
  have HBw := Lib.hid hbW
  have H5 := Lib.hid h5
  have HA := Lib.hid (awake14_walk W)
  clear hbW h5
  go_enter Tryz.func3, Tryz.ntmps3
  go_wp2_with fail
  (try rw [hW]); (try rw [hb0]); clear hW hb0
  go_wp2_with fail
  refine HA.out.mono ?_
  rintro e w1 ⟨rfl, h1⟩
  have HB1 := Lib.hid (HBw.out.trans (h1.mono HBw.out.size))
  obtain ⟨b1, b2, b3, b4, b5⟩ := (H5.out.below h1).cells
  clear HA HBw H5 h1
  by_cases g1 : (40 : Int) < (n : Int)
  · go_wp2
    go_ret
    exact ⟨rfl, HB1.out⟩
  by_cases g2 : (40 : Int) < (p : Int)
  · go_wp2
    go_ret
    exact ⟨rfl, HB1.out⟩
  have HL : Hid (lookW a false true n p true = 1) := by show lookW _ _ _ _ _ _ = _; simp [lookW, sizeW, leastW]
  go_wp2_with fail
  refine (look_walk (x := false) (y := true) (root := true) w1).mono ?_
  rintro e w2 ⟨rfl, h2⟩
  rw [HL.out]
  have HB2 := Lib.hid (HB1.out.trans (h2.mono HB1.out.size))
  clear h2 HB1 b1 b2 b3 b4 b5
  go_wp2
  go_ret
  exact ⟨rfl, HB2.out⟩
set_option maxHeartbeats 2000000 in
theorem looks_ftf (w : World) : Calls Tryz.prog 3 #[.int .i64 a, ndv false true (.slice A n c) (.slice B m d) (.slice C p q), .bool false] w fun e w' => e = .returned (.bool true) ∧ Below w.heap.size w w' := by
  obtain ⟨W, b0, hW, hb0, hbW, h5⟩ := boxedA w false true (.slice A n c) (.slice B m d) (.slice C p q)
  have HBw := Lib.hid hbW
  have H5 := Lib.hid h5
  have HA := Lib.hid (awake14_walk W)
  clear hbW h5
  go_enter Tryz.func3, Tryz.ntmps3
  go_wp2_with fail
  (try rw [hW]); (try rw [hb0]); clear hW hb0
  go_wp2_with fail
  refine HA.out.mono ?_
  rintro e w1 ⟨rfl, h1⟩
  have HB1 := Lib.hid (HBw.out.trans (h1.mono HBw.out.size))
  obtain ⟨b1, b2, b3, b4, b5⟩ := (H5.out.below h1).cells
  clear HA HBw H5 h1
  by_cases g1 : (40 : Int) < (n : Int)
  · go_wp2
    go_ret
    exact ⟨rfl, HB1.out⟩
  by_cases g2 : (40 : Int) < (p : Int)
  · go_wp2
    go_ret
    exact ⟨rfl, HB1.out⟩
  have HL : Hid (lookW a false true n p false = 1) := by show lookW _ _ _ _ _ _ = _; simp [lookW, sizeW, leastW]
  go_wp2_with fail
  refine (look_walk (x := false) (y := true) (root := false) w1).mono ?_
  rintro e w2 ⟨rfl, h2⟩
  rw [HL.out]
  have HB2 := Lib.hid (HB1.out.trans (h2.mono HB1.out.size))
  clear h2 HB1 b1 b2 b3 b4 b5
  go_wp2
  go_ret
  exact ⟨rfl, HB2.out⟩
set_option maxHeartbeats 2000000 in
theorem looks_fft (w : World) : Calls Tryz.prog 3 #[.int .i64 a, ndv false false (.slice A n c) (.slice B m d) (.slice C p q), .bool true] w fun e w' => e = .returned (.bool true) ∧ Below w.heap.size w w' := by
  obtain ⟨W, b0, hW, hb0, hbW, h5⟩ := boxedA w false false (.slice A n c) (.slice B m d) (.slice C p q)
  have HBw := Lib.hid hbW
  have H5 := Lib.hid h5
  have HA := Lib.hid (awake14_walk W)
  clear hbW h5
  go_enter Tryz.func3, Tryz.ntmps3
  go_wp2_with fail
  (try rw [hW]); (try rw [hb0]); clear hW hb0
  go_wp2_with fail
  refine HA.out.mono ?_
  rintro e w1 ⟨rfl, h1⟩
  have HB1 := Lib.hid (HBw.out.trans (h1.mono HBw.out.size))
  obtain ⟨b1, b2, b3, b4, b5⟩ := (H5.out.below h1).cells
  clear HA HBw H5 h1
  by_cases g1 : (40 : Int) < (n : Int)
  · go_wp2
    go_ret
    exact ⟨rfl, HB1.out⟩
  by_cases g2 : (40 : Int) < (p : Int)
  · go_wp2
    go_ret
    exact ⟨rfl, HB1.out⟩
  have HL : Hid (lookW a false false n p true = 0) := by show lookW _ _ _ _ _ _ = _; simp [lookW, sizeW, leastW]
  go_wp2_with fail
  refine (look_walk (x := false) (y := false) (root := true) w1).mono ?_
  rintro e w2 ⟨rfl, h2⟩
  rw [HL.out]
  have HB2 := Lib.hid (HB1.out.trans (h2.mono HB1.out.size))
  clear h2 HB1 b1 b2 b3 b4 b5
  go_wp2
  go_ret
  exact ⟨rfl, HB2.out⟩
set_option maxHeartbeats 2000000 in
theorem looks_fff (w : World) : Calls Tryz.prog 3 #[.int .i64 a, ndv false false (.slice A n c) (.slice B m d) (.slice C p q), .bool false] w fun e w' => e = .returned (.bool true) ∧ Below w.heap.size w w' := by
  obtain ⟨W, b0, hW, hb0, hbW, h5⟩ := boxedA w false false (.slice A n c) (.slice B m d) (.slice C p q)
  have HBw := Lib.hid hbW
  have H5 := Lib.hid h5
  have HA := Lib.hid (awake14_walk W)
  clear hbW h5
  go_enter Tryz.func3, Tryz.ntmps3
  go_wp2_with fail
  (try rw [hW]); (try rw [hb0]); clear hW hb0
  go_wp2_with fail
  refine HA.out.mono ?_
  rintro e w1 ⟨rfl, h1⟩
  have HB1 := Lib.hid (HBw.out.trans (h1.mono HBw.out.size))
  obtain ⟨b1, b2, b3, b4, b5⟩ := (H5.out.below h1).cells
  clear HA HBw H5 h1
  by_cases g1 : (40 : Int) < (n : Int)
  · go_wp2
    go_ret
    exact ⟨rfl, HB1.out⟩
  by_cases g2 : (40 : Int) < (p : Int)
  · go_wp2
    go_ret
    exact ⟨rfl, HB1.out⟩
  by_cases g3 : (n : Int) < a
  · have HL : Hid (lookW a false false n p false = 2) := by show lookW _ _ _ _ _ _ = _; simp [lookW, sizeW, leastW]; omega
    go_wp2_with fail
    refine (look_walk (x := false) (y := false) (root := false) w1).mono ?_
    rintro e w2 ⟨rfl, h2⟩
    rw [HL.out]
    have HB2 := Lib.hid (HB1.out.trans (h2.mono HB1.out.size))
    clear h2 HB1 b1 b2 b3 b4 b5
    go_wp2
    go_ret
    exact ⟨rfl, HB2.out⟩
  · have HL : Hid (lookW a false false n p false = 0) := by show lookW _ _ _ _ _ _ = _; simp [lookW, sizeW, leastW]; omega
    go_wp2_with fail
    refine (look_walk (x := false) (y := false) (root := false) w1).mono ?_
    rintro e w2 ⟨rfl, h2⟩
    rw [HL.out]
    have HB2 := Lib.hid (HB1.out.trans (h2.mono HB1.out.size))
    clear h2 HB1 b1 b2 b3 b4 b5
    go_wp2
    go_ret
    exact ⟨rfl, HB2.out⟩
/-- The law is true of whatever node. -/
theorem mendLooks_walk (x y root : Bool) (w : World) : Calls Tryz.prog 3 #[.int .i64 a, ndv x y (.slice A n c) (.slice B m d) (.slice C p q), .bool root] w fun e w' => e = .returned (.bool true) ∧ Below w.heap.size w w' := by
  cases x <;> cases y <;> cases root
  · exact looks_fff w
  · exact looks_fft w
  · exact looks_ftf w
  · exact looks_ftt w
  · exact looks_tff w
  · exact looks_tft w
  · exact looks_ttf w
  · exact looks_ttt w
end
end Go.Proofs.YtcegianjpifnbaaGreat
