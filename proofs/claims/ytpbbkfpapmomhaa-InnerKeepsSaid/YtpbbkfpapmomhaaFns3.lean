/-
  The law's own fixed fact, Awake; where a key goes (on); a right one in two parts (parted).
-/
import Derived.Test.YtpbbkfpapmomhaaPlain3
import Derived.Test.YtpbbkfpapmomhaaInstead
namespace Go.Proofs.Ytpbbkfpapmomhaa
open Go.ChangeShapes Go.WideShapes Go.ChangeAt Go.RowKit
set_option linter.unusedVariables false
set_option linter.unusedSimpArgs false

def K3 : List Int := [3, 5, 9]
theorem sl_three (w : World) (o : Obj) : Sl ((w.alloc (.cells #[.int .i64 3, .int .i64 5, .int .i64 9] 2)).alloc o) (some ⟨w.heap.size, 0, none⟩) 3 3 K3 := by
  refine ⟨rfl, Nat.le_refl _, fun e => (by cases e), .inr ⟨w.heap.size, 0, rfl, fun j u hj => ?_⟩⟩
  match j, hj with
  | 0, hj => simp [K3] at hj; subst hj; exact c_old (c_new rfl rfl)
  | 1, hj => simp [K3] at hj; subst hj; exact c_old (c_new rfl rfl)
  | 2, hj => simp [K3] at hj; subst hj; exact c_old (c_new rfl rfl)
theorem asc_three : Asc1 K3 := by unfold Asc1 K3; decide

set_option maxHeartbeats 1000000 in
theorem awake_walk (w : World) : Calls Try.prog 14 #[] w fun e w' => e = .returned (.bool true) ∧ Below w.heap.size w w' := by
  go_enter Try.func14, Try.ntmps14
  go_wp2_with fail
  obtain ⟨X, hX, hb0, hsl, HB⟩ : ∃ X : World, ((w.alloc (.cells #[.int .i64 3, .int .i64 5, .int .i64 9] 2)).alloc (.cells #[.int .i64 1, .int .i64 2, .int .i64 3, .int .i64 4] 35)).alloc (.cells #[.slice (some ⟨w.heap.size, 0, none⟩) 3 3, .slice (some ⟨w.heap.size + 1, 0, none⟩) 4 4] 26) = X ∧ Below w.heap.size w X ∧ Sl X (some ⟨w.heap.size, 0, none⟩) 3 3 K3 ∧ Box X (w.heap.size + 1 + 1) (.slice (some ⟨w.heap.size, 0, none⟩) 3 3) (.slice (some ⟨w.heap.size + 1, 0, none⟩) 4 4) :=
    ⟨_, rfl, (((Below.refl _ w).alloc (Nat.le_refl _) _).alloc (by simp) _).alloc (by simp; omega) _, (sl_three w _).alloc _, Box.new _ (by simp) _ _ _⟩
  rw [hX]
  clear hX
  refine (way_walk (some ⟨w.heap.size, 0, none⟩) (some ⟨w.heap.size + 1, 0, none⟩) 3 3 4 4 K3 5 X hsl (by omega) (by omega)).mono ?_
  rintro e w1 ⟨r, rfl, hs, p1⟩
  obtain rfl : r = 2 := spot_way asc_three hs
  rw [show heldW 2 4 = 2 from rfl]
  obtain ⟨c0, c1⟩ := HB.below p1
  clear hs
  go_wp2_with fail
  refine (way_walk (some ⟨w.heap.size, 0, none⟩) (some ⟨w.heap.size + 1, 0, none⟩) 3 3 4 4 K3 2 w1 (hsl.below p1) (by omega) (by omega)).mono ?_
  rintro e w2 ⟨r, rfl, hs, p2⟩
  obtain rfl : r = 0 := spot_way asc_three hs
  rw [show heldW 0 4 = 0 from rfl]
  have p12 := p1.trans (p2.mono p1.size)
  clear hs c0 c1
  obtain ⟨c0, c1⟩ := HB.below p12
  go_wp2_with fail
  refine (way_walk (some ⟨w.heap.size, 0, none⟩) (some ⟨w.heap.size + 1, 0, none⟩) 3 3 4 4 K3 9 w2 (hsl.below p12) (by omega) (by omega)).mono ?_
  rintro e w3 ⟨r, rfl, hs, p3⟩
  obtain rfl : r = 3 := spot_way asc_three hs
  rw [show heldW 3 4 = 3 from rfl]
  have p13 := p12.trans (p3.mono p12.size)
  clear hs c0 c1
  go_wp2
  go_ret
  exact ⟨rfl, hb0.trans (p13.mono hb0.size)⟩

set_option maxHeartbeats 1000000 in
theorem on_walk (A B : Option Addr) (n c m d : Nat) (ks ws : List Int) (x : Int) (w : World) (hk : Sl w A n c ks) (hw : Sl w B m d ws) (hn : n ≤ 1000) (hm : m ≤ 1000) (hm0 : 0 < m) :
    Calls Try.prog 33 #[inn A n c B m d, .int .i64 x] w fun e w' => ∃ r, e = .returned (.int .i64 (ws.getD (heldW r m) 0)) ∧ Spot ks x r ∧ Below w.heap.size w w' := by
  have hb0 := below_new w (.cells #[.slice A n c, .slice B m d] 26)
  go_enter Try.func33, Try.ntmps33
  go_wp2_with fail
  refine (way_walk A B n c m d ks x _ (hk.alloc _) (by omega) (by omega)).mono ?_
  rintro e w1 ⟨r, rfl, hs, p1⟩
  have HB := (Box.new w rfl (.slice A n c) (.slice B m d) 26).below p1
  obtain ⟨c0, c1⟩ := HB
  have hr : heldW r m < m := by unfold heldW; omega
  have hb1 := hb0.trans (p1.mono hb0.size)
  obtain ⟨b, off, rfl, hbl, d0⟩ := hw.at0 hr
  have d1 := (hb1.cell (p := ⟨b, off + heldW r m, none⟩) hbl).trans d0
  have HS := Lib.hid hs
  clear hs d0 hk hw
  generalize hz : ws.getD (heldW r m) 0 = z at *
  have HZ := Lib.hid hz
  clear hz
  generalize hj : heldW r m = j at *
  have HJ := Lib.hid hj
  clear hj
  have i0 : ¬ ((j : Int) < 0) := by omega
  have i1 : (j : Int) < (m : Int) := by omega
  have i2 : decide ((m : Int) ≤ (j : Int)) = false := by simp; omega
  go_wp2
  go_ret
  exact ⟨r, ret_int (by rw [HJ.out]; exact HZ.out.symm), HS.out, hb1⟩
end Go.Proofs.Ytpbbkfpapmomhaa
