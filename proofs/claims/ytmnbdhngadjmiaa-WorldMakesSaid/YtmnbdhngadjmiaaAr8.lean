/-
  What arena's Look, Free and Alloc return.
-/
import Derived.Test.YtmnbdhngadjmiaaAr7
namespace Go.Proofs.Ytmnbdhngadjmiaa
open Go.ChangeShapes Go.WideShapes Go.ChangeAt Go.RowKit
set_option linter.unusedVariables false
set_option linter.unusedSimpArgs false
set_option maxRecDepth 20000

theorem Arn.below {d : Bool} {F : Nat → Prop} {w w' : World} {a : Nat} {S : As} (h : Arn d F w a S) (hb : Below w.heap.size w w') : Arn d F w' a S := by
  obtain ⟨l, P, Q, h⟩ := h
  exact ⟨l, P, Q, h.below hb⟩
theorem Arn.only {d : Bool} {F G : Nat → Prop} {w w' : World} {a : Nat} {S : As} (h : Arn d F w a S) (hb : Only G w w') (hd : ∀ b, F b → ¬ G b) : Arn d F w' a S := by
  obtain ⟨l, P, Q, h⟩ := h
  exact ⟨l, P, Q, h.only hb hd⟩
theorem Arn.lt {d : Bool} {F : Nat → Prop} {w : World} {a : Nat} {S : As} (h : Arn d F w a S) : ∀ b, F b → b < w.heap.size := by
  obtain ⟨l, P, Q, h⟩ := h
  exact h.lt

/-- A variable for the result. -/
theorem boxedR (w : World) : ∃ (W : World) (R : Nat), w.alloc (.cells #[.bool false, .bool false, .slice none 0 0, .slice none 0 0, .slice none 0 0] 42) = W ∧ w.heap.size = R ∧ Below w.heap.size w W ∧ R < W.heap.size ∧ Five W R false false (.slice none 0 0) (.slice none 0 0) (.slice none 0 0) :=
  ⟨_, _, rfl, rfl, below_new _ _, by simp, Five.new _ rfl _ _ _ _ _⟩
/-- The result's variable, written. -/
theorem five_put {w : World} {R : Nat} {x y x' y' : Bool} {pv kv zv pv' kv' zv' : Value} (h : Five w R x y pv kv zv) : Five (((((w.setCell ⟨R, 0, none⟩ (.bool x')).setCell ⟨R, 1, none⟩ (.bool y')).setCell ⟨R, 2, none⟩ pv').setCell ⟨R, 3, none⟩ kv').setCell ⟨R, 4, none⟩ zv') R x' y' pv' kv' zv' := by
  unfold Five
  rw [heap_setCell_same _ R 4 _ _ zv' (heap_setCell_same _ R 3 _ _ kv' (heap_setCell_same _ R 2 _ _ pv' (heap_setCell_same _ R 1 _ _ _ (heap_setCell_same _ R 0 _ _ _ h))))]
  rfl
theorem below_five {w X : World} {R B : Nat} (h : Below B w X) (hR : B ≤ R) (u0 u1 u2 u3 u4 : Value) : Below B w (((((X.setCell ⟨R, 0, none⟩ u0).setCell ⟨R, 1, none⟩ u1).setCell ⟨R, 2, none⟩ u2).setCell ⟨R, 3, none⟩ u3).setCell ⟨R, 4, none⟩ u4) :=
  ((((h.setCell (p := ⟨R, 0, none⟩) hR _).setCell (p := ⟨R, 1, none⟩) hR _).setCell (p := ⟨R, 2, none⟩) hR _).setCell (p := ⟨R, 3, none⟩) hR _).setCell (p := ⟨R, 4, none⟩) hR _
theorem Below.ofOnly_five {w w' : World} {R : Nat} (h : R = w.heap.size) (hs : w.heap.size < w'.heap.size) (u0 u1 u2 u3 u4 : Value) : True := trivial

section
variable {F : Nat → Prop} {w : World} {a : Nat} {S : As} {i : Nat} {p : Pa} {r : Int}

set_option maxHeartbeats 2000000 in
theorem look_yes (h : Arn false F w a S) (hok : Ok S) (hp : S.pls[i]? = some p) (hu : p.used = true) (hr : mk i p.cnt = r) :
    Calls Try.prog 13 #[ptr a, .int .i64 r] w (MadeN w p.nd) := by
  obtain ⟨W, R, hW, hR, hb0, hs0, hv5⟩ := boxedR w
  obtain ⟨v, l, Q, g, c, hA, hx, hg, hF, HR, e2, e3, e4, e5, e6, e7, e8, e9, hz⟩ := open_yes (h.below hb0) hok hp hu hr
  have hm := hA.mem _ (List.mem_of_getElem? hx)
  obtain ⟨P1, n1, q1, hP⟩ := hm.ps.shape
  obtain ⟨P2, n2, q2, hK⟩ := hm.ks.shape
  obtain ⟨P3, n3, q3, hZ⟩ := hm.zs.shape
  have t1 : Prs 0 W (.slice P1 n1 q1) p.nd.ps := by rw [← hP]; exact hm.ps
  have t2 : Row 2 0 W (.slice P2 n2 q2) p.nd.ks := by rw [← hK]; exact hm.ks
  have t3 : Row 30 0 W (.slice P3 n3 q3) p.nd.zs := by rw [← hZ]; exact hm.zs
  obtain ⟨s1, s2, s3⟩ := hm.small
  rw [show v.pv = .slice P1 n1 q1 from hP] at e4
  rw [show v.kv = .slice P2 n2 q2 from hK] at e5
  rw [show v.zv = .slice P3 n3 q3 from hZ] at e6
  have HC : Hid (Calls Try.prog 52 #[ndv p.nd.inn p.nd.tag (.slice P1 n1 q1) (.slice P2 n2 q2) (.slice P3 n3 q3)] W (MadeN W p.nd)) := nodeSame_walk _ _ _ _ _ _ _ _ _ _ _ _ _ _ W t1.lp t2.sl t3.sl s1 s2 s3
  clear h hp hu hr hA hx hz hm e7 e8 e9 t1 t2 t3 s1 s2 s3 hP hK hZ
  go_enter Try.func13, Try.ntmps13
  go_wp2_with fail
  (try rw [hW]); (try rw [hR]); clear hW
  refine HR.out.mono ?_
  rintro e w' ⟨rfl, rfl⟩
  go_wp2_with fail
  refine HC.out.mono ?_
  rintro e w1 ⟨pv, kv, zv, rfl, r1, r2, r3, hb1⟩
  have v5 := hv5.below hb1
  obtain ⟨x0, x1, x2, x3, x4⟩ := v5.cells
  have f0 := v5.free 0
  have f1 := v5.free 1
  have f2 := v5.free 2
  have f3 := v5.free 3
  have f4 := v5.free 4
  obtain ⟨P1', n1', q1', rfl⟩ := r1.shape
  obtain ⟨P2', n2', q2', rfl⟩ := r2.shape
  obtain ⟨P3', n3', q3', rfl⟩ := r3.shape
  have hRw : w.heap.size ≤ R := by omega
  have hWw := hb0.size
  have HE : Hid (Five (((((w1.setCell ⟨R, 0, none⟩ (.bool p.nd.inn)).setCell ⟨R, 1, none⟩ (.bool p.nd.tag)).setCell ⟨R, 2, none⟩ (.slice P1' n1' q1')).setCell ⟨R, 3, none⟩ (.slice P2' n2' q2')).setCell ⟨R, 4, none⟩ (.slice P3' n3' q3')) R p.nd.inn p.nd.tag (.slice P1' n1' q1') (.slice P2' n2' q2') (.slice P3' n3' q3') ∧ MadeN w p.nd (.returned (ndv p.nd.inn p.nd.tag (.slice P1' n1' q1') (.slice P2' n2' q2') (.slice P3' n3' q3'))) (((((w1.setCell ⟨R, 0, none⟩ (.bool p.nd.inn)).setCell ⟨R, 1, none⟩ (.bool p.nd.tag)).setCell ⟨R, 2, none⟩ (.slice P1' n1' q1')).setCell ⟨R, 3, none⟩ (.slice P2' n2' q2')).setCell ⟨R, 4, none⟩ (.slice P3' n3' q3'))) :=
    ⟨five_put v5, _, _, _, rfl, (((((r1.set_below hs0 _).set_below hs0 _).set_below hs0 _).set_below hs0 _).set_below hs0 _).lower hWw, (((((r2.set_below hs0 _).set_below hs0 _).set_below hs0 _).set_below hs0 _).set_below hs0 _).lower hWw, (((((r3.set_below hs0 _).set_below hs0 _).set_below hs0 _).set_below hs0 _).set_below hs0 _).lower hWw, below_five (hb0.trans (hb1.mono hWw)) hRw _ _ _ _ _⟩
  clear r1 r2 r3 v5
  go_wp2
  ((try simp only [Exit.inBlock, Exit.then]); refine bodyPost_ret (results_five rfl rfl HE.out.1) rfl ?_)
  exact HE.out.2

set_option maxHeartbeats 2000000 in
theorem look_no (h : Arn false F w a S) (hok : Ok S) (hno : ∀ i, ¬ Hit S r i) :
    Calls Try.prog 13 #[ptr a, .int .i64 r] w fun e w' => e = .returned (ndv false false (.slice none 0 0) (.slice none 0 0) (.slice none 0 0)) ∧ Arn false F w' a S.fault ∧ Only F w w' := by
  obtain ⟨W, R, hW, hR, hb0, hs0, hv5⟩ := boxedR w
  have HR := Lib.hid (open_no (h.below hb0) hok hno)
  have hlt := h.lt
  clear h hno
  go_enter Try.func13, Try.ntmps13
  go_wp2_with fail
  (try rw [hW]); (try rw [hR]); clear hW
  refine HR.out.mono ?_
  rintro e w1 ⟨rfl, h2, h3⟩
  have hFR : ¬ F R := fun hF => by have := hlt R hF; omega
  have v5 : Five w1 R false false (.slice none 0 0) (.slice none 0 0) (.slice none 0 0) := (h3.block R hs0 hFR).trans hv5
  obtain ⟨x0, x1, x2, x3, x4⟩ := v5.cells
  have f0 := v5.free 0
  have f1 := v5.free 1
  have f2 := v5.free 2
  have f3 := v5.free 3
  have f4 := v5.free 4
  have hRw : w.heap.size ≤ R := by omega
  have hO5 : Only (fun b => b = R) w1 (((((w1.setCell ⟨R, 0, none⟩ (.bool false)).setCell ⟨R, 1, none⟩ (.bool false)).setCell ⟨R, 2, none⟩ (.slice none 0 0)).setCell ⟨R, 3, none⟩ (.slice none 0 0)).setCell ⟨R, 4, none⟩ (.slice none 0 0)) :=
    ((((Only.set (fun b => b = R) w1 (p := ⟨R, 0, none⟩) rfl _).then (Only.set (fun b => b = R) _ (p := ⟨R, 1, none⟩) rfl _)).then (Only.set (fun b => b = R) _ (p := ⟨R, 2, none⟩) rfl _)).then (Only.set (fun b => b = R) _ (p := ⟨R, 3, none⟩) rfl _)).then (Only.set (fun b => b = R) _ (p := ⟨R, 4, none⟩) rfl _)
  have HE : Hid (Five (((((w1.setCell ⟨R, 0, none⟩ (.bool false)).setCell ⟨R, 1, none⟩ (.bool false)).setCell ⟨R, 2, none⟩ (.slice none 0 0)).setCell ⟨R, 3, none⟩ (.slice none 0 0)).setCell ⟨R, 4, none⟩ (.slice none 0 0)) R false false (.slice none 0 0) (.slice none 0 0) (.slice none 0 0) ∧ Arn false F (((((w1.setCell ⟨R, 0, none⟩ (.bool false)).setCell ⟨R, 1, none⟩ (.bool false)).setCell ⟨R, 2, none⟩ (.slice none 0 0)).setCell ⟨R, 3, none⟩ (.slice none 0 0)).setCell ⟨R, 4, none⟩ (.slice none 0 0)) a S.fault ∧ Only F w (((((w1.setCell ⟨R, 0, none⟩ (.bool false)).setCell ⟨R, 1, none⟩ (.bool false)).setCell ⟨R, 2, none⟩ (.slice none 0 0)).setCell ⟨R, 3, none⟩ (.slice none 0 0)).setCell ⟨R, 4, none⟩ (.slice none 0 0))) :=
    ⟨five_put v5, h2.only hO5 (fun b hF e => hFR (by rw [← e]; exact hF)), ((Only.of_below F hb0).then h3).trans hO5 (fun b e => .inr (by omega))⟩
  clear v5 hO5 h2 h3
  go_wp2
  ((try simp only [Exit.inBlock, Exit.then]); refine bodyPost_ret (results_five rfl rfl HE.out.1) rfl ?_)
  exact ⟨rfl, HE.out.2⟩

set_option maxHeartbeats 2000000 in
theorem look_nil (r : Int) (w : World) :
    Calls Try.prog 13 #[nilp, .int .i64 r] w fun e w' => e = .returned (ndv false false (.slice none 0 0) (.slice none 0 0) (.slice none 0 0)) ∧ Below w.heap.size w w' := by
  obtain ⟨W, R, hW, hR, hb0, hs0, v5⟩ := boxedR w
  go_enter Try.func13, Try.ntmps13
  go_wp2_with fail
  (try rw [hW]); (try rw [hR]); clear hW
  refine (right_nil r _).mono ?_
  rintro e w1 ⟨rfl, rfl⟩
  obtain ⟨x0, x1, x2, x3, x4⟩ := v5.cells
  have f0 := v5.free 0
  have f1 := v5.free 1
  have f2 := v5.free 2
  have f3 := v5.free 3
  have f4 := v5.free 4
  have HE := Lib.hid (five_put (x' := false) (y' := false) (pv' := .slice none 0 0) (kv' := .slice none 0 0) (zv' := .slice none 0 0) v5)
  have HE2 := Lib.hid (below_five hb0 (R := R) (by omega) (.bool false) (.bool false) (.slice none 0 0) (.slice none 0 0) (.slice none 0 0))
  clear v5
  go_wp2
  ((try simp only [Exit.inBlock, Exit.then]); refine bodyPost_ret (results_five rfl rfl HE.out) rfl ?_)
  exact ⟨rfl, HE2.out⟩
end
end Go.Proofs.Ytmnbdhngadjmiaa
