/-
  The laws' fixed fact; the law ArenaNil.
-/
import Derived.Test.YtbalhjfkkigchaaAwk4
namespace Go.Proofs.Ytbalhjfkkigchaa
open Go.ChangeShapes Go.WideShapes Go.ChangeAt Go.RowKit
set_option linter.unusedVariables false
set_option linter.unusedSimpArgs false
set_option maxRecDepth 20000

/-- A node that was put in, and nothing since. -/
def Pa.one (c : Nat) (nd : Nd) : Pa := ⟨true, c, nd, nd.zs, 0, false⟩
theorem mk11 : mk 0 1 = 1099511627777 := by decide
theorem mk02 : mk 0 2 = 2199023255553 := by decide
theorem small_nil (x y : Bool) : Nd.small ⟨x, y, [], [], []⟩ := ⟨by simp, by simp, by simp⟩

/-- Behind a call's change of one arena that lies above w0. -/
theorem Nx.low {F : Nat → Prop} {w w' : World} {a : Nat} {S : As} {d : Bool} {B : Nat} (h : Nx d F w a S w') (hF : ∀ b, F b → B ≤ b) (hB : B ≤ w.heap.size) : ∃ F', Arn d F' w' a S ∧ (∀ b, F' b → B ≤ b) ∧ Below B w w' := by
  obtain ⟨F', h1, h2, h3⟩ := h
  exact ⟨F', h1, fun b e => (h3 b e).elim (hF b) fun e => Nat.le_trans hB e, h2.below hF hB⟩

/-- Fields of a node's value. -/
theorem field_tag (x y : Bool) (p k z : Value) (W : World) : (Instr.field 55 (ndv x y p k z) 1).run Try.prog W = .ok (.bool y) W := by
  kernel_rfl
theorem field_ways (x y : Bool) (p k z : Value) (W : World) : (Instr.field 55 (ndv x y p k z) 3).run Try.prog W = .ok (.agg #[k, z]) W := by
  kernel_rfl
theorem field_ways2 (k z : Value) (W : World) : (Instr.field 53 (.agg #[k, z]) 1).run Try.prog W = .ok z W := by
  kernel_rfl

set_option maxHeartbeats 2000000 in
theorem awake_walk (w : World) : Calls Try.prog 10 #[] w fun e w' => e = .returned (.bool true) ∧ Below w.heap.size w w' := by
  go_enter Try.func10, Try.ntmps10
  go_wp2_with fail
  refine (new_walk 1 w).mono ?_
  rintro e w1 ⟨rfl, h1, hb1⟩
  rw [show mostOf 1 = 1 from rfl] at h1
  have l1 := h1.lt
  have H1 := Lib.hid h1
  clear h1
  go_wp2_with fail
  refine (alloc_yes (lo := w1.heap.size) H1.out ⟨by simp [As.new], by simp [As.new], by simp [As.new], by simp [As.new]⟩ (by simp [As.new]) 0 ⟨Pa.nil, rfl, rfl⟩ (by omega) (RdN.nil _ _ false true) l1 (small_nil _ _)).mono ?_
  rintro e w2 ⟨rfl, h2⟩
  obtain ⟨F2, h2, f2, b2⟩ := h2.low (B := w.heap.size) (fun b e => by omega) hb1.size
  rw [show (As.new 1).next.1 = 0 from rfl, show mk ((0 : Nat) : Int) ((0 + 1 : Nat) : Int) = 1099511627777 from mk11]
  have h2' : Arn false F2 w2 w.heap.size ⟨1, [Pa.one 1 ⟨false, true, [], [], []⟩], [], 0⟩ := h2
  have H2 := Lib.hid h2'
  have l2 := h2.lt
  have hb2 := hb1.trans b2
  clear h2 h2' b2 l1 H1
  go_wp2_with fail
  refine (alloc_not (lo := w2.heap.size) H2.out ⟨by simp, by simp [Pa.one], by simp, by simp⟩ (by simp) (RdN.nil _ _ false false)).mono ?_
  rintro e w3 ⟨rfl, b3⟩
  have H3 := Lib.hid (H2.out.below b3)
  have hb3 := hb2.trans (b3.mono hb2.size)
  clear H2 b3 l2
  go_wp2_with fail
  refine (free_yes H3.out ⟨by simp, by simp [Pa.one], by simp, by simp⟩ (i := 0) (p := Pa.one 1 ⟨false, true, [], [], []⟩) rfl rfl mk11).mono ?_
  rintro e w4 ⟨rfl, h4⟩
  obtain ⟨F4, h4, f4, b4⟩ := h4.low f2 hb3.size
  have h4' : Arn false F4 w4 w.heap.size ⟨1, [Pa.gone 1], [0], 0⟩ := h4
  have H4 := Lib.hid h4'
  have l4 := h4.lt
  have hb4 := hb3.trans b4
  clear h4 h4' b4 H3
  go_wp2_with fail
  refine (alloc_yes (lo := w4.heap.size) H4.out ⟨by simp, by simp [Pa.gone], by simp, by simp⟩ (by simp) 1 ⟨Pa.gone 1, rfl, rfl⟩ (by omega) (RdN.nil _ _ false false) l4 (small_nil _ _)).mono ?_
  rintro e w5 ⟨rfl, h5⟩
  obtain ⟨F5, h5, f5, b5⟩ := h5.low f4 hb4.size
  rw [show (As.mk 1 [Pa.gone 1] [0] 0).next.1 = 0 from rfl, show mk ((0 : Nat) : Int) ((1 + 1 : Nat) : Int) = 2199023255553 from mk02]
  have h5' : Arn false F5 w5 w.heap.size ⟨1, [Pa.one 2 ⟨false, false, [], [], []⟩], [], 0⟩ := h5
  have H5 := Lib.hid h5'
  have hb5 := hb4.trans b5
  clear h5 h5' b5 H4 l4
  go_wp2_with fail
  refine (look_no H5.out ⟨by simp, by simp [Pa.one], by simp, by simp⟩ (r := 1099511627777) ?_).mono ?_
  · rintro i ⟨p, hp, _, hm⟩
    match i, hp with
    | 0, hp =>
      simp at hp
      subst hp
      exact absurd hm (by decide)
  rintro e w6 ⟨rfl, h6, o6⟩
  have b6 := o6.below f5 hb5.size
  have hb6 := hb5.trans b6
  have H6 := Lib.hid h6
  clear h6 o6 b6
  have hfd := field_tag false false (.slice none 0 0) (.slice none 0 0) (.slice none 0 0)
  go_wp2_with fail
  obtain ⟨l, P, Q, h7⟩ := H6.out
  refine (faults_walk h7).mono ?_
  rintro e w7 ⟨rfl, rfl⟩
  clear h7
  rw [show ((As.fault ⟨1, [Pa.one 2 ⟨false, false, [], [], []⟩], [], 0⟩).flt : Int) = 1 from rfl]
  go_wp2
  go_ret
  exact ⟨rfl, hb6⟩

set_option maxHeartbeats 2000000 in
theorem arenaNil_walk (x y : Bool) (A B : Option Addr) (n c m d : Nat) (ks ws : List Int) (r i : Int) (w : World) (hk : Sk .i8 (-128) 127 w A n ks) (hw : Sk .u8 0 255 w B m ws) :
    Calls Try.prog 9 #[smv x y A n c B m d, .int .i64 r, .int .i64 i] w fun e w' => e = .returned (.bool true) ∧ Below w.heap.size w w' := by
  go_enter Try.func9, Try.ntmps9
  go_wp2_with fail
  refine (awake_walk _).mono ?_
  rintro e w1 ⟨rfl, hb1⟩
  have p0 := below_new w (.cells #[.bool x, .bool y, .slice A n c, .slice B m d] 36)
  have hb : Below w.heap.size w w1 := p0.trans (hb1.mono p0.size)
  have c0 := below_read hb1 (c_new (w := w) (b := w.heap.size) (j := 0) (cs := #[.bool x, .bool y, .slice A n c, .slice B m d]) (t := 36) rfl rfl)
  have c1 := below_read hb1 (c_new (w := w) (b := w.heap.size) (j := 1) (cs := #[.bool x, .bool y, .slice A n c, .slice B m d]) (t := 36) rfl rfl)
  have c2 := below_read hb1 (c_new (w := w) (b := w.heap.size) (j := 2) (cs := #[.bool x, .bool y, .slice A n c, .slice B m d]) (t := 36) rfl rfl)
  have c3 := below_read hb1 (c_new (w := w) (b := w.heap.size) (j := 3) (cs := #[.bool x, .bool y, .slice A n c, .slice B m d]) (t := 36) rfl rfl)
  have Hk := Lib.hid (hk.keep fun p hp => hb.cell hp)
  have Hw := Lib.hid (hw.keep fun p hp => hb.cell hp)
  clear hb1 p0 hk hw
  go_wp2_with fail
  refine (node_walk x y A B n c m d ks ws w1 Hk.out Hw.out).mono ?_
  intro e w2 h2
  obtain ⟨v, rfl, rd, b2⟩ := h2.rd
  have hb2 := hb.trans (b2.mono hb.size)
  clear h2 c0 c1 c2 c3
  go_wp2_with fail
  refine (alloc_nil rd).mono ?_
  rintro e w3 ⟨rfl, b3⟩
  have hb3 := hb2.trans (b3.mono hb2.size)
  clear rd b2 b3
  go_wp2_with fail
  refine (setMark_nil r _).mono ?_
  rintro e w4 ⟨rfl, rfl⟩
  go_wp2_with fail
  refine (free_nil r _).mono ?_
  rintro e w4 ⟨rfl, rfl⟩
  go_wp2_with fail
  refine (look_nil r _).mono ?_
  rintro e w4 ⟨rfl, b4⟩
  have hb4 := hb3.trans (b4.mono hb3.size)
  clear b4
  go_wp2_with fail
  refine (sameNode_walk (RdN.nil 0 w4 false false) (RdN.nil 0 w4 false false) (small_nil _ _)).mono ?_
  rintro e w5 ⟨rfl, b5⟩
  have hb5 := hb4.trans (b5.mono hb4.size)
  clear b5
  go_wp2_with fail
  refine (way_nil r i _).mono ?_
  rintro e w6 ⟨rfl, rfl⟩
  go_wp2_with fail
  refine (swapWay_nil r i 0 1 _).mono ?_
  rintro e w6 ⟨rfl, rfl⟩
  go_wp2_with fail
  refine (info_nil r _).mono ?_
  rintro e w6 ⟨rfl, rfl⟩
  go_wp2_with fail
  refine (swapInfo_nil r 0 1 _).mono ?_
  rintro e w6 ⟨rfl, rfl⟩
  go_wp2_with fail
  refine (mark_nil r _).mono ?_
  rintro e w6 ⟨rfl, rfl⟩
  go_wp2_with fail
  refine (used_nil _).mono ?_
  rintro e w6 ⟨rfl, rfl⟩
  go_wp2_with fail
  refine (faults_nil _).mono ?_
  rintro e w6 ⟨rfl, rfl⟩
  go_wp2_with fail
  refine (most_nil _).mono ?_
  rintro e w6 ⟨rfl, rfl⟩
  go_wp2
  go_ret
  exact ⟨rfl, hb5⟩
end Go.Proofs.Ytbalhjfkkigchaa
