/-
  What world's New returns.
-/
import Derived.Test.YtmhmgdpcibldlaaMk8
namespace Go.Proofs.Ytmhmgdpcibldlaa
open Go.ChangeShapes Go.WideShapes Go.ChangeAt Go.RowKit
set_option linter.unusedVariables false
set_option linter.unusedSimpArgs false
set_option maxRecDepth 20000

theorem within_yes {n l m : Int} (h : l ≤ n ∧ n ≤ m) (w : World) : Calls Try.prog 69 #[.int .i64 n, .int .i64 l, .int .i64 m] w fun e w' => e = .returned (.bool true) ∧ w = w' := by
  obtain ⟨h1, h2⟩ := h
  go_enter Try.func69, Try.ntmps69
  go_wp2
  go_ret
  exact ⟨rfl, rfl⟩
theorem within_no {n l m : Int} (h : ¬ (l ≤ n ∧ n ≤ m)) (w : World) : Calls Try.prog 69 #[.int .i64 n, .int .i64 l, .int .i64 m] w fun e w' => e = .returned (.bool false) ∧ w = w' := by
  by_cases h1 : l ≤ n
  · have h2 : ¬ n ≤ m := fun e => h ⟨h1, e⟩
    clear h
    go_enter Try.func69, Try.ntmps69
    go_wp2
    go_ret
    exact ⟨rfl, rfl⟩
  · clear h
    go_enter Try.func69, Try.ntmps69
    go_wp2
    go_ret
    exact ⟨rfl, rfl⟩
/-- A new world's root, and its entry. -/
def rootPa : Pa := ⟨true, 1, Nd.nil, [], 0, false⟩
def entryNd : Nd := ⟨true, false, [], [], [mk 0 1]⟩
def entryPa : Pa := ⟨true, 1, entryNd, [mk 0 1], 0, false⟩
def ini0 (m L : Nat) : Sig := ⟨As.new m, 0, List.replicate L (-1, []), []⟩
def ini1 (m L : Nat) : Sig := ⟨⟨m, [rootPa], [], 0⟩, 0, List.replicate L (-1, []), []⟩
def newSig (m L : Nat) : Sig := ⟨⟨m, [rootPa, entryPa], [], 0⟩, 0, List.replicate L (-1, []), []⟩
theorem make0 (m L : Nat) (h : 2 ≤ m) : gMake Nd.nil (ini0 m L) = (mk 0 1, ini1 m L) := by
  have hr : (As.new m).room := by unfold As.room; simp [As.new]; omega
  have e : (As.new m).make Nd.nil = (mk 0 1, ⟨m, [rootPa], [], 0⟩) := by
    rw [As.make, if_pos hr]
    simp [As.new, As.next, As.cntN, As.alloc, Pa.nil, rootPa, Nd.nil]
  simp only [gMake, ini0, e]
  rfl
theorem make1 (m L : Nat) (h : 2 ≤ m) : gMake entryNd (ini1 m L) = (mk 1 1, newSig m L) := by
  have hr : (⟨m, [rootPa], [], 0⟩ : As).room := by unfold As.room; simp; omega
  have e : (⟨m, [rootPa], [], 0⟩ : As).make entryNd = (mk 1 1, ⟨m, [rootPa, entryPa], [], 0⟩) := by
    rw [As.make, if_pos hr]
    simp [As.next, As.cntN, As.alloc, Pa.nil, entryPa, entryNd]
  simp only [gMake, ini1, e]
  rfl
/-- A new world. -/
def NewW (w : World) (a b : Int) (m L rm : Nat) (e : Ending) (w' : World) : Prop := ∃ d FW, e = .returned (.tuple #[ptr d.W, .int .i64 0]) ∧ WS d FW w' (newSig m L) ∧ (∀ b, FW b → w.heap.size ≤ b) ∧ Below w.heap.size w w' ∧ d.a = a ∧ d.b = b ∧ d.en = mk 1 1 ∧ d.m = rm
section
variable {d : Wd} {FW R R' : Nat → Prop} {w w' w0 : World} {s : Sig} {nd : Nd} {v : Value} {a b t n r : Int}
theorem WS.entry (h : WS d FW w s) (z : Int) : WS { d with en := z } FW (w.setCell ⟨d.W, 5, none⟩ (.int .i64 z)) s ∧ Only FW w (w.setCell ⟨d.W, 5, none⟩ (.int .i64 z)) := by
  refine ⟨?_, Only.set FW w (p := ⟨d.W, 5, none⟩) h.fW _⟩
  obtain ⟨FA, FE, FT, h1, h2, h3, n1, n2, n3, hF, m1, m2, m3⟩ := h.parts
  have ho : Only (· = d.W) w (w.setCell ⟨d.W, 5, none⟩ (.int .i64 z)) := Only.set (· = d.W) w (p := ⟨d.W, 5, none⟩) rfl _
  exact ⟨heap_setCell_same w d.W 5 _ _ _ h.head, FA, FE, FT, h1.only ho (fun b e e2 => m1 (e2 ▸ e)), h2.only ho (fun b e e2 => m2 (e2 ▸ e)), h3.only ho (fun b e e2 => m3 (e2 ▸ e)), n1, n2, n3, hF, m1, m2, m3⟩
theorem ok0 (m L : Nat) (l : List Pa) (hl : l.length ≤ 2) (hc : ∀ p ∈ l, p.cnt = 1) : Ok (⟨m, l, [], 0⟩ : As) := ⟨by simp only; omega, fun p hp => by rw [hc p hp]; omega, by simp, by simp⟩
/-- The parts, put together. -/
theorem ws_new {X1 X2 X3 : World} {A B E : Nat} {FE : Nat → Prop} {m L k : Nat} (h1 : Arn false (fun b => b = A) X1 A (As.new m)) (b2 : Below X1.heap.size X1 X2) (hB : X1.heap.size = B) (ht : TbS (fun b => b = B) X2 B k [])
    (h3 : EpS FE X3 E 0 (List.replicate L (-1, []))) (b3 : Below X2.heap.size X2 X3) (hE : ∀ b, FE b → X2.heap.size ≤ b) (a b : Int) :
    ∃ d FW, d.W = X3.heap.size ∧ d.A = A ∧ d.R = B ∧ d.E = E ∧ d.a = a ∧ d.b = b ∧ d.en = 0 ∧ d.m = k ∧ WS d FW (X3.alloc (.cells #[ptr A, ptr B, ptr E, .int .i64 a, .int .i64 b, .int .i64 0] woT)) (ini0 m L) ∧ ∀ x, FW x → x = A ∨ X1.heap.size ≤ x := by
  have hA : A < X1.heap.size := h1.lt A rfl
  have hs2 := b2.size
  have hs3 := b3.size
  have hB2 : B < X2.heap.size := ht.lt B rfl
  have b4 := below_new X3 (.cells #[ptr A, ptr B, ptr E, .int .i64 a, .int .i64 b, .int .i64 0] woT)
  refine ⟨⟨X3.heap.size, A, B, E, a, b, 0, k⟩, fun x => x = A ∨ FE x ∨ x = B ∨ x = X3.heap.size, rfl, rfl, rfl, rfl, rfl, rfl, rfl, rfl, ⟨heap_alloc_new _ _, fun x => x = A, FE, fun x => x = B, ((h1.below b2).below b3).below b4, h3.below b4, (ht.keep (w' := X3) (fun x e => b3.block x (ht.lt x e)) b3.size).keep (fun x e => b4.block x (Nat.lt_of_lt_of_le (ht.lt x e) b3.size)) b4.size, ?_, ?_, ?_, fun _ => Iff.rfl, ?_, ?_, ?_⟩, ?_⟩
  · intro x e f; have := hE x f; omega
  · intro x e f; omega
  · intro x e f; have := hE x e; omega
  · simp only; omega
  · intro f; have := h3.lt _ f; simp only at this; omega
  · simp only; omega
  · rintro x (e | e | e | e)
    · exact .inl e
    · have := hE x e; omega
    · omega
    · omega
set_option maxHeartbeats 2000000 in
theorem new_ok (w : World) (ha : 2 ≤ a ∧ a ≤ 32) (hb : 2 * a - 1 ≤ b ∧ b ≤ 32) (ht : 1 ≤ t ∧ t ≤ 64) (hn : 2 ≤ n ∧ n ≤ 65536) (hr : 0 ≤ r ∧ r ≤ 65536) :
    Calls Try.prog 47 #[.int .i64 a, .int .i64 b, .int .i64 t, .int .i64 n, .int .i64 r] w (NewW w a b n.toNat t.toNat r.toNat) := by
  have m1 : IntKind.i64.wrap (2 * a) = 2 * a := IntWalk.i64_in _ (by omega)
  have m2 : IntKind.i64.wrap (2 * a - 1) = 2 * a - 1 := IntWalk.i64_in _ (by omega)
  have hm1 : arMost n = n.toNat := by unfold arMost; omega
  have hm2 : mostOf t = t.toNat := by unfold mostOf; omega
  have hm : 2 ≤ n.toNat := by omega
  have hm3 : recMost r = r.toNat := by unfold recMost; omega
  have HR := Lib.hid (recNew_walk r)
  rw [hm3] at HR
  have W1 := Lib.hid (within_yes ha)
  have W2 := Lib.hid (within_yes hb)
  have W3 := Lib.hid (within_yes ht)
  have W4 := Lib.hid (within_yes hn)
  have W5 := Lib.hid (within_yes hr)
  have HA := Lib.hid (arNew_walk n)
  have HE := Lib.hid (epNew_walk t)
  rw [hm1] at HA
  rw [hm2] at HE
  clear ha hb ht hn hr hm1 hm2 hm3
  generalize n.toNat = m at *
  generalize r.toNat = rm at *
  generalize t.toNat = L at *
  go_enter Try.func47, Try.ntmps47
  go_wp2_with fail
  refine (W1.out _).mono ?_
  rintro e w1 ⟨rfl, rfl⟩
  go_wp2_with fail
  refine (W2.out _).mono ?_
  rintro e w1 ⟨rfl, rfl⟩
  go_wp2_with fail
  refine (W3.out _).mono ?_
  rintro e w1 ⟨rfl, rfl⟩
  go_wp2_with fail
  refine (W4.out _).mono ?_
  rintro e w1 ⟨rfl, rfl⟩
  go_wp2_with fail
  refine (W5.out _).mono ?_
  rintro e w1 ⟨rfl, rfl⟩
  clear W1 W2 W3 W4 W5 m1 m2
  go_wp2_with fail
  refine (HA.out w).mono ?_
  rintro e X1 ⟨rfl, hA, b1⟩
  obtain ⟨A, hAe⟩ : ∃ A, w.heap.size = A := ⟨_, rfl⟩
  rw [hAe] at hA ⊢
  clear HA
  go_wp2_with fail
  refine (HR.out X1).mono ?_
  rintro e X2 ⟨rfl, hT, b2⟩
  replace hT : TbS _ X2 X1.heap.size rm [] := ⟨[], _, hT, rfl⟩
  clear HR
  obtain ⟨B, hBe⟩ : ∃ B, X1.heap.size = B := ⟨_, rfl⟩
  rw [hBe] at hT ⊢
  go_wp2_with fail
  refine (HE.out X2).mono ?_
  rintro e X3 ⟨E, FE, rfl, hE, hFE, b3⟩
  obtain ⟨d, FW, dW, dA, dR, dE, da, db, den, dm, hWS, hFW⟩ := ws_new hA b2 hBe hT hE b3 hFE a b
  obtain ⟨X4, hX4⟩ : ∃ X4, X3.alloc (.cells #[ptr A, ptr B, ptr E, .int .i64 a, .int .i64 b, .int .i64 0] woT) = X4 := ⟨_, rfl⟩
  obtain ⟨D, hD⟩ : ∃ D, X3.heap.size = D := ⟨_, rfl⟩
  rw [hX4] at hWS
  rw [hD] at dW
  have hb14 : Below w.heap.size w X4 := by
    rw [← hX4]
    exact ((b1.trans (b2.mono b1.size)).trans (b3.mono (Nat.le_trans b1.size b2.size))).trans ((below_new X3 _).mono (Nat.le_trans b1.size (Nat.le_trans b2.size b3.size)))
  have HS := Lib.hid hWS
  have HFW : Hid (∀ b, FW b → w.heap.size ≤ b) := fun b e => by have := hFW b e; have := b1.size; omega
  have HB := Lib.hid hb14
  have HDW := Lib.hid dW
  have HDa := Lib.hid da
  have HDb := Lib.hid db
  have HDm := Lib.hid dm
  obtain ⟨g0, g1, g2, g3, g4, g5⟩ := hWS.cells
  rw [dW, dA] at g0
  have M1 := make0 m L hm
  have M2 := make1 m L hm
  have HM1 := nxW_make hWS (ok0 m L [] (by simp) (fun p hp => by cases hp)) (fun i hi => by cases hi) (RdF.nil FW X4 false false) (by unfold Nd.small; simp)
  rw [show (⟨false, false, [], [], []⟩ : Nd) = Nd.nil from rfl, M1, dA] at HM1
  have HM1 := Lib.hid HM1
  clear hA b1 hT b2 hE hFE b3 hWS hFW hb14 dW dA dR dE da db den dm g1 g2 g3 g4 g5 M1 HE
  go_wp2_with fail
  refine HM1.out.mono ?_
  rintro e X5 ⟨y, rfl, hn⟩
  clear HM1 g0
  obtain ⟨FW1, hWS, hO1, hF1⟩ := hn
  obtain ⟨X6, g, hX6, hg, b6, c6⟩ : ∃ (X6 : World) (g : Nat), X5.alloc (.cells #[.int .i64 (mk 0 1)] 34) = X6 ∧ X5.heap.size = g ∧ Below X5.heap.size X5 X6 ∧ X6.cell? ⟨g, 0, none⟩ = some (.int .i64 (mk 0 1)) := ⟨_, _, rfl, rfl, below_new _ _, c_new rfl rfl⟩
  have hW6 := hWS.below b6
  obtain ⟨g0, g1, g2, g3, g4, g5⟩ := hWS.cells
  obtain ⟨q0, q1, q2, q3, q4, q5⟩ := hW6.cells
  rw [HDW.out] at g0 q0
  have hv : RdF FW1 X6 (ndv true false (.slice none 0 0) (.slice none 0 0) (.slice (some ⟨g, 0, none⟩) 1 1)) entryNd := by
    refine ⟨none, 0, none, 0, some ⟨g, 0, none⟩, 1, rfl, Lp.nil _, Sl.nil _, sl_one c6, fun ad e => ?_⟩
    rcases e with e | e | e
    · cases e
    · cases e
    · injection e with e
      subst e
      intro f
      have := hWS.lt _ f
      simp only at this
      omega
  have HM2 := nxW_make hW6 (ok0 m L [rootPa] (by simp) (fun p hp => by simp at hp; subst hp; rfl)) (fun i hi => by cases hi) hv (by unfold Nd.small entryNd; simp)
  rw [M2] at HM2
  have HM2 := Lib.hid HM2
  have HO : Hid (∀ Z FZ, WS d FZ Z (newSig m L) → Only FW1 X6 Z → (∀ b, FZ b → FW1 b ∨ X6.heap.size ≤ b) → Below w.heap.size w Z ∧ ∀ b, FZ b → w.heap.size ≤ b) := by
    intro Z FZ _ h2 h3
    have e1 : Below w.heap.size w X5 := HB.out.trans (hO1.below HFW.out HB.out.size)
    have e2 : Below w.heap.size w X6 := e1.trans (b6.mono e1.size)
    have e3 : ∀ b, FW1 b → w.heap.size ≤ b := fun b e => (hF1 b e).elim (HFW.out b) fun e => Nat.le_trans HB.out.size e
    exact ⟨e2.trans (h2.below e3 e2.size), fun b e => (h3 b e).elim (e3 b) fun e => Nat.le_trans e2.size e⟩
  clear hWS hW6 hO1 hF1 b6 c6 hv M2 HB HFW HS g1 g2 g3 g4 g5 q1 q2 q3 q4 q5 hX4 hD hAe hBe
  generalize hdA : d.A = dA at *
  go_wp2_with fail
  refine HM2.out.mono ?_
  rintro e X7 ⟨y2, rfl, FZ, hWS, hO2, hF2⟩
  have hAll := HO.out X7 FZ hWS hO2 hF2
  obtain ⟨hE1, hE2⟩ := hWS.entry (mk 1 1)
  have cW : X7.cell? ⟨D, 5, none⟩ = some (.int .i64 d.en) := by rw [← HDW.out]; exact hWS.cells.2.2.2.2.2
  have fW : X7.frozen? ⟨D, 5, none⟩ = false := by rw [← HDW.out]; exact frozen_of_row X7 d.W 5 _ _ hWS.head
  have HF : Hid (NewW w a b m L rm (.returned (.tuple #[ptr D, .int .i64 0])) (X7.setCell ⟨D, 5, none⟩ (.int .i64 (mk 1 1)))) := by
    refine ⟨{ d with en := mk 1 1 }, FZ, by simp only [HDW.out], by rw [← HDW.out]; exact hE1, hAll.2, ?_, HDa.out, HDb.out, rfl, HDm.out⟩
    rw [← HDW.out]
    exact hAll.1.trans (hE2.below hAll.2 hAll.1.size)
  clear HM2 HO hWS hO2 hF2 hAll hE1 hE2 g0 q0 hdA
  go_wp2
  go_ret2
  exact HF.out
end
end Go.Proofs.Ytmhmgdpcibldlaa
