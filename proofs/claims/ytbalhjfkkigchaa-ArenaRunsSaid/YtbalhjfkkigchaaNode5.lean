/-
  The walks of the laws' Small.Node and Same.
-/
import Derived.Test.YtbalhjfkkigchaaNode4
namespace Go.Proofs.Ytbalhjfkkigchaa
open Go.ChangeShapes Go.WideShapes Go.ChangeAt Go.RowKit
set_option linter.unusedVariables false
set_option linter.unusedSimpArgs false
set_option maxRecDepth 20000

/-- The node's variable, stored where the result stands. -/
theorem NI.end_ {w X Z : World} {R N : Nat} {x y : Bool} {pv kv zv : Value} {ps : List (Int × Int)} {ks zs : List Int} (h : NI X N x y pv kv zv ps ks zs Z) (hb : Below w.heap.size w X) (hR : R < X.heap.size) (hw : w.heap.size < R) (hN : R < N) (hv : Five X R false false (.slice none 0 0) (.slice none 0 0) (.slice none 0 0)) :
    Five Z R false false (.slice none 0 0) (.slice none 0 0) (.slice none 0 0) ∧ Hid (Five (((((Z.setCell ⟨R, 0, none⟩ (.bool x)).setCell ⟨R, 1, none⟩ (.bool y)).setCell ⟨R, 2, none⟩ pv).setCell ⟨R, 3, none⟩ kv).setCell ⟨R, 4, none⟩ zv) R x y pv kv zv ∧
    MadeN w ⟨x, y, ps, ks, zs⟩ (.returned (ndv x y pv kv zv)) (((((Z.setCell ⟨R, 0, none⟩ (.bool x)).setCell ⟨R, 1, none⟩ (.bool y)).setCell ⟨R, 2, none⟩ pv).setCell ⟨R, 3, none⟩ kv).setCell ⟨R, 4, none⟩ zv)) := by
  have v5 : Five Z R false false (.slice none 0 0) (.slice none 0 0) (.slice none 0 0) := (h.only.block R hR (by omega)).trans hv
  have hbZ : Below w.heap.size w Z := hb.trans (h.only.below (fun b e => by omega) hb.size)
  exact ⟨v5, five_put v5, _, _, _, rfl, (((((h.ps.set_below hR _).set_below hR _).set_below hR _).set_below hR _).set_below hR _).lower hb.size, (((((h.ks.set_below hR _).set_below hR _).set_below hR _).set_below hR _).set_below hR _).lower hb.size, (((((h.zs.set_below hR _).set_below hR _).set_below hR _).set_below hR _).set_below hR _).lower hb.size, below_five hbZ (by omega) _ _ _ _ _⟩

def psTo (x : Bool) (ks : List Int) (k : Nat) : List (Int × Int) := if x then [] else numd ((ks.take k).take 8) 0
def ksTo (x : Bool) (ks : List Int) (k : Nat) : List Int := if x then (ks.take k).take 8 else []
theorem psTo_len (x : Bool) (ks : List Int) (k : Nat) : (psTo x ks k).length ≤ 8 := by unfold psTo; cases x <;> simp [numd_length] <;> omega
theorem ksTo_len (x : Bool) (ks : List Int) (k : Nat) : (ksTo x ks k).length ≤ 8 := by unfold ksTo; cases x <;> simp <;> omega

set_option maxHeartbeats 4000000 in
theorem node_walk (x y : Bool) (A B : Option Addr) (n c m d : Nat) (ks ws : List Int) (w : World) (hk : Sk .i8 (-128) 127 w A n ks) (hw : Sk .u8 0 255 w B m ws) :
    Calls Try.prog 22 #[smv x y A n c B m d] w (MadeN w (smallNd x y ks ws)) := by
  have hnM := hk.max
  have hmM := hw.max
  unfold maxLen at hnM hmM
  go_enter Try.func22, Try.ntmps22
  go_wp2_with fail
  obtain ⟨X, R, N, hX, hR, hN, hb0, hs0, hR0, hRN, s0, s1, s2, s3, hv5, hni⟩ := boxedN w x y (.slice A n c) (.slice B m d)
  rw [hX, hN, hR]
  have HX := Lib.hid hX
  have HRw := Lib.hid hR
  have HNw := Lib.hid hN
  clear hX hR hN
  have Hk := Lib.hid hk
  have Hw := Lib.hid hw
  have hkl := Lib.hid hk.len
  have hwl := Lib.hid hw.len
  clear hk hw
  generalize hb : w.heap.size = b at *
  have HB := Lib.hid hb
  clear hb
  have n1 : b ≠ N := by omega
  go_loopw [16] (fun i wr => ∃ k pv kv, k ≤ n ∧ i = .int .i64 (k : Nat) ∧ Hid (NI X N x y pv kv (.slice none 0 0) (psTo x ks k) (ksTo x ks k) [] wr)) (fun i _ => n - (intOf i).toNat)
  case atStart =>
    refine ⟨0, .slice none 0 0, .slice none 0 0, Nat.zero_le _, rfl, ?_⟩
    have : psTo x ks 0 = [] ∧ ksTo x ks 0 = [] := by unfold psTo ksTo; cases x <;> simp [numd]
    rw [this.1, this.2]
    exact hni
  case round =>
    clear hni
    obtain ⟨k, pv, kv, hkn, rfl, hI⟩ := hrel
    obtain ⟨⟨A1, N1, C1, rfl⟩, ⟨A2, N2, C2, rfl⟩, -⟩ := hI.out.shape
    have t0 := hI.out.read s0 (by simpa using n1)
    have t3 := hI.out.read s3 (by simpa using n1)
    obtain ⟨f0, f1, f2, f3, f4⟩ := hI.out.five.cells
    have hsz := hI.out.size
    have hNlt := hI.out.lt
    by_cases hlt : k < n
    · obtain ⟨g, off, z, rfl, hgl, hz, z0, z1, c0⟩ := Hk.out.at_ hlt
      rw [HB.out] at hgl
      have gN : g ≠ N := by omega
      have d0 := hI.out.read ((hb0.cell (p := ⟨g, off + k, none⟩) hgl).trans c0) (by simpa using gN)
      have i0 : (0 : Int) ≤ (k : Int) := by omega
      have i1 : (k : Int) < (n : Int) := by omega
      have hwz : IntKind.i64.wrap z = z := IntWalk.i64_in _ (by omega)
      have hwk : IntKind.i64.wrap ((k : Int) + 1) = (k : Int) + 1 := IntWalk.i64_in _ (by omega)
      have hkl2 : k ≤ ks.length := by have := hkl.out; omega
      by_cases h8 : k < 8
      · have h8' : (k : Int) < 8 := by omega
        have HT : Hid ((ks.take (k + 1)).take 8 = (ks.take k).take 8 ++ [z]) := take8_lt hz h8
        have HL : Hid (((ks.take k).take 8).length = k) := take8_len hkl2 h8
        cases x with
        | true =>
          have hpK : (ksTo true ks k).length + [z].length ≤ 100000 := by have := ksTo_len true ks k; simp; omega
          have HK2 : Hid (ksTo true ks (k + 1) = ksTo true ks k ++ [z]) := by show _ = _; unfold ksTo; rw [if_pos rfl, if_pos rfl]; exact HT.out
          have HP2 : Hid (psTo true ks (k + 1) = psTo true ks k) := rfl
          go_wp2_with (at_builtin; refine pushN rowK (base := X.heap.size) rfl (.tmp 29) (.tmp 32) rfl _ (ksTo true ks k) rfl ((hI.out.ks).alloc _) (some ⟨wr.heap.size, 0, none⟩) 1 1 [z] rfl (sl_one (by simp)) hpK (by simp; omega) ?_; intro u2 w2 hr2 hg2; obtain ⟨k1, k2, hI2, hrd⟩ := (hI.out.below (below_new wr _)).pushK hr2 hg2; have y0 := hrd _ _ s0 (by simpa using n1); clear hr2 hg2 hrd; obtain ⟨A5, N5, C5, rfl⟩ := hI2.ks.shape)
          have HI2 := Lib.hid hI2
          clear hI2
          go_wp2
          go_roundw
          case rel => exact ⟨k + 1, _, _, by omega, by go_num, by rw [HK2.out, HP2.out]; exact HI2.out⟩
          case measure => simp [intOf]; omega
        | false =>
          have hpP : (psTo false ks k).length + [(z, (k : Int))].length ≤ 100000 := by have := psTo_len false ks k; simp; omega
          have HK2 : Hid (ksTo false ks (k + 1) = ksTo false ks k) := rfl
          have HP2 : Hid (psTo false ks (k + 1) = psTo false ks k ++ [(z, (k : Int))]) := by
            show _ = _
            unfold psTo
            rw [if_neg (by simp), if_neg (by simp), HT.out, numd_snoc, HL.out]
            simp
          go_wp2_with (at_builtin; refine pushP (base := X.heap.size) rfl (.tmp 44) (.tmp 49) rfl _ (psTo false ks k) rfl (hI.out.below (below_new wr _)).ps (some ⟨wr.heap.size, 0, none⟩) 1 1 [(z, (k : Int))] rfl (lp_one (by simp) (by simp)) hpP (by simp; omega) ?_; intro u2 w2 hr2 hg2; obtain ⟨k1, k2, hI2⟩ := (hI.out.below (below_new wr _)).pushP hr2 hg2; clear hr2 hg2; obtain ⟨A5, N5, C5, rfl⟩ := hI2.ps.shape)
          have HI2 := Lib.hid hI2
          clear hI2
          go_wp2
          go_roundw
          case rel => exact ⟨k + 1, _, _, by omega, by go_num, by rw [HK2.out, HP2.out]; exact HI2.out⟩
          case measure => simp [intOf]; omega
      · have h8' : ¬ ((k : Int) < 8) := by omega
        have HT : Hid ((ks.take (k + 1)).take 8 = (ks.take k).take 8) := take8_ge (by omega)
        have HK2 : Hid (ksTo x ks (k + 1) = ksTo x ks k) := by show _ = _; unfold ksTo; rw [HT.out]
        have HP2 : Hid (psTo x ks (k + 1) = psTo x ks k) := by show _ = _; unfold psTo; rw [HT.out]
        go_wp2
        go_roundw
        case rel => exact ⟨k + 1, _, _, by omega, by go_num, by rw [HK2.out, HP2.out]; exact hI.out⟩
        case measure => simp [intOf]; omega
    · have hall : ks.take k = ks := List.take_of_length_le (by have := hkl.out; omega)
      have HPE : Hid (psTo x ks k = (smallNd x y ks ws).ps) := by show _ = _; unfold psTo smallNd; rw [hall]
      have HKE : Hid (ksTo x ks k = (smallNd x y ks ws).ks) := by show _ = _; unfold ksTo smallNd; rw [hall]
      clear hall
      generalize psTo x ks k = PS at *
      generalize ksTo x ks k = KS at *
      go_wp2_with fail
      go_loopw [56] (fun i wr => ∃ k zv, k ≤ m ∧ i = .int .i64 (k : Nat) ∧ Hid (NI X N x y (.slice A1 N1 C1) (.slice A2 N2 C2) zv PS KS ((ws.take k).take 8) wr)) (fun i _ => m - (intOf i).toNat)
      case atStart => exact ⟨0, _, Nat.zero_le _, rfl, by rw [show (ws.take 0).take 8 = [] from by simp]; exact hI⟩
      case round =>
        clear hI f0 f1 f2 f3 f4 t0 t3 hsz hkn hlt
        obtain ⟨k, zv, hkm, rfl, hI⟩ := hrel
        obtain ⟨-, -, ⟨A3, N3, C3, rfl⟩⟩ := hI.out.shape
        obtain ⟨f0, f1, f2, f3, f4⟩ := hI.out.five.cells
        have hsz := hI.out.size
        by_cases hlt : k < m
        · obtain ⟨g, off, z, rfl, hgl, hz, z0, z1, c0⟩ := Hw.out.at_ hlt
          rw [HB.out] at hgl
          have gN : g ≠ N := by omega
          have d0 := hI.out.read ((hb0.cell (p := ⟨g, off + k, none⟩) hgl).trans c0) (by simpa using gN)
          have i0 : (0 : Int) ≤ (k : Int) := by omega
          have i1 : (k : Int) < (m : Int) := by omega
          have hwz : IntKind.i64.wrap z = z := IntWalk.i64_in _ (by omega)
          have hwk : IntKind.i64.wrap ((k : Int) + 1) = (k : Int) + 1 := IntWalk.i64_in _ (by omega)
          by_cases h8 : k < 8
          · have h8' : (k : Int) < 8 := by omega
            have HT : Hid ((ws.take (k + 1)).take 8 = (ws.take k).take 8 ++ [z]) := take8_lt hz h8
            have hpK : ((ws.take k).take 8).length + [z].length ≤ 100000 := by rw [List.length_take]; simp; omega
            generalize (ws.take k).take 8 = ZS at *
            go_wp2_with (at_builtin; refine pushN rowR (base := X.heap.size) rfl (.tmp 65) (.tmp 68) rfl _ ZS rfl ((hI.out.zs).alloc _) (some ⟨wr.heap.size, 0, none⟩) 1 1 [z] rfl (sl_one (by simp)) hpK (by simp; omega) ?_; intro u2 w2 hr2 hg2; obtain ⟨k1, k2, hI2⟩ := (hI.out.below (below_new wr _)).pushZ hr2 hg2; clear hr2 hg2; obtain ⟨A5, N5, C5, rfl⟩ := hI2.zs.shape)
            have HI2 := Lib.hid hI2
            clear hI2
            go_wp2
            go_roundw
            case rel => exact ⟨k + 1, _, by omega, by go_num, by rw [HT.out]; exact HI2.out⟩
            case measure => simp [intOf]; omega
          · have h8' : ¬ ((k : Int) < 8) := by omega
            have HT : Hid ((ws.take (k + 1)).take 8 = (ws.take k).take 8) := take8_ge (by omega)
            go_wp2
            go_roundw
            case rel => exact ⟨k + 1, _, by omega, by go_num, by rw [HT.out]; exact hI.out⟩
            case measure => simp [intOf]; omega
        · have hall : ws.take k = ws := List.take_of_length_le (by have := hwl.out; omega)
          rw [hall] at hI
          obtain ⟨v5, HE⟩ := hI.out.end_ (by rw [HB.out]; exact hb0) hs0 (by rw [HB.out]; omega) hRN hv5
          obtain ⟨x0, x1, x2, x3, x4⟩ := v5.cells
          have g0 := v5.free 0
          have g1 := v5.free 1
          have g2 := v5.free 2
          have g3 := v5.free 3
          have g4 := v5.free 4
          have rN : R ≠ N := by omega
          have HQ : Hid (smallNd x y ks ws = ⟨x, y, PS, KS, ws.take 8⟩) := by show _ = _; rw [HPE.out, HKE.out]; rfl
          clear v5 hall hI
          go_wp2
          ((try simp only [Exit.inBlock, Exit.then]); refine bodyPost_ret (results_five rfl rfl HE.out.1) rfl ?_)
          rw [HQ.out]
          exact HE.out.2
end Go.Proofs.Ytbalhjfkkigchaa
