/-
  The world, its making, what it keeps; Record whole.
-/
import Derived.Test.YtcegianjpifnbaaGreatPf
import Derived.Test.YtcegianjpifnbaaGreatPe
namespace Go.Proofs.YtcegianjpifnbaaGreat
open Go.ChangeShapes Go.WideShapes Go.ChangeAt Go.RowKit
set_option linter.unusedVariables false
set_option linter.unusedSimpArgs false
set_option maxRecDepth 20000

/-- A value reads as a node, in memory that isn't FW's. -/
def RdF (FW : Nat → Prop) (w : World) (v : Value) (nd : Nd) : Prop :=
  ∃ A c B d C q, v = ndv nd.inn nd.tag (.slice A nd.ps.length c) (.slice B nd.ks.length d) (.slice C nd.zs.length q) ∧ Lp w A nd.ps.length c nd.ps ∧ Sl w B nd.ks.length d nd.ks ∧ Sl w C nd.zs.length q nd.zs ∧ ∀ ad : Addr, A = some ad ∨ B = some ad ∨ C = some ad → ¬ FW ad.block
section
variable {d : Wd} {FW R R' : Nat → Prop} {w w' w0 : World} {s : Sig} {nd : Nd} {v : Value}
theorem RdF.nil (FW : Nat → Prop) (w : World) (x y : Bool) : RdF FW w (ndv x y (.slice none 0 0) (.slice none 0 0) (.slice none 0 0)) ⟨x, y, [], [], []⟩ :=
  ⟨none, 0, none, 0, none, 0, rfl, Lp.nil _, Sl.nil _, Sl.nil _, fun ad e => by rcases e with e | e | e <;> cases e⟩
theorem next_some {S : As} (h : ∀ i ∈ S.fr, i < S.pls.length) : ∃ pa, S.next.2.pls[S.next.1]? = some pa ∧ pa.cnt = S.cntN := by
  have h1 : ∃ pa, S.next.2.pls[S.next.1]? = some pa := by
    unfold As.next
    cases hf : S.fr with
    | nil => exact ⟨Pa.nil, by simp⟩
    | cons i fr => exact ⟨_, List.getElem?_eq_getElem (h i (by rw [hf]; exact List.mem_cons_self ..))⟩
  obtain ⟨pa, h1⟩ := h1
  exact ⟨pa, h1, by unfold As.cntN; rw [h1]⟩
theorem cntN_le {S : As} (hok : Ok S) (h : ∀ i ∈ S.fr, i < S.pls.length) : S.cntN ≤ 1000000 := by
  unfold As.cntN
  split
  · rename_i p hp
    unfold As.next at hp
    cases hf : S.fr with
    | nil =>
      simp only [hf] at hp
      simp at hp
      subst hp
      simp [Pa.nil]
    | cons i fr =>
      simp only [hf] at hp
      exact hok.cnt p (List.mem_of_getElem? hp)
  · omega
theorem nxW_make (h : WS d FW w s) (hok : Ok s.ar) (hfr : ∀ i ∈ s.ar.fr, i < s.ar.pls.length) (hv : RdF FW w v nd) (hs : nd.small) :
    Calls Tryz.prog 38 #[ptr d.A, v] w fun e w' => ∃ b, e = .returned (.tuple #[.int .i64 (gMake nd s).1, .bool b]) ∧ NxW d FW w (gMake nd s).2 w' := by
  obtain ⟨FA, h1, h2, h3⟩ := h.ar
  obtain ⟨A, c, B, q, C, r, rfl, k1, k2, k3, k4⟩ := hv
  by_cases hroom : s.ar.room
  · obtain ⟨l, P, Q, hA⟩ := h1
    refine (alloc_walk hA hok hroom s.ar.cntN (next_some hfr) (cntN_le hok hfr) nd.inn nd.tag A B C _ c _ q _ r nd.ps nd.ks nd.zs k1 k2 k3 hs.1 hs.2.1 hs.2.2 (fun ad e hF => k4 ad e (h2 _ hF))).mono ?_
    rintro e w' ⟨rfl, hn⟩
    refine ⟨true, ?_, ?_⟩
    · simp only [gMake, As.make, if_pos hroom]
    · simp only [gMake, As.make, if_pos hroom]
      exact h3 _ _ hn
  · have hno : (s.ar.most : Int) ≤ (s.ar.pls.length : Int) - (s.ar.fr.length : Int) := by unfold As.room at hroom; omega
    obtain ⟨l, P, Q, hA⟩ := h1
    refine (alloc_full hA hok hno _ _ _ _ _).mono ?_
    rintro e w' ⟨rfl, hb⟩
    refine ⟨false, ?_, ?_⟩
    · simp only [gMake, As.make, if_neg hroom]
    · simp only [gMake, As.make, if_neg hroom]
      exact NxW.of_below h hb
theorem nxW_used (h : WS d FW w s) (hok : Ok s.ar) : Calls Tryz.prog 17 #[ptr d.A] w fun e w' => e = .returned (.int .i64 ((s.ar.pls.length : Int) - (s.ar.fr.length : Int))) ∧ Below w.heap.size w w' := by
  obtain ⟨FA, ⟨l, P, Q, h1⟩, h2, h3⟩ := h.ar
  exact used_walk h1 hok.len hok.fr
theorem nxW_most (h : WS d FW w s) : Calls Tryz.prog 58 #[ptr d.A] w fun e w' => e = .returned (.int .i64 (s.ar.most : Int)) ∧ w = w' := by
  obtain ⟨FA, ⟨l, P, Q, h1⟩, h2, h3⟩ := h.ar
  exact most_walk h1
theorem nxW_look {i : Nat} {p : Pa} {r : Int} (h : WS d FW w s) (hok : Ok s.ar) (hh : s.ar.hit r = some (i, p)) : Calls Tryz.prog 50 #[ptr d.A, .int .i64 r] w (MadeN w p.nd) := by
  obtain ⟨FA, h1, h2, h3⟩ := h.ar
  obtain ⟨k1, k2, k3⟩ := hit_some hh
  exact look_yes h1 hok.len hok.cnt k1 k2 k3
theorem nxW_look0 {i : Nat} {p : Pa} {r : Int} (h : WS d FW w s) (hlen : s.ar.pls.length ≤ 70000) (hcnt : ∀ p ∈ s.ar.pls, p.cnt ≤ 1000000) (hh : s.ar.hit r = some (i, p)) : Calls Tryz.prog 50 #[ptr d.A, .int .i64 r] w (MadeN w p.nd) := by
  obtain ⟨FA, h1, h2, h3⟩ := h.ar
  obtain ⟨k1, k2, k3⟩ := hit_some hh
  exact look_yes h1 hlen hcnt k1 k2 k3
theorem nxW_way {i : Nat} {p : Pa} {r : Int} (h : WS d FW w s) (hok : Ok s.ar) (hh : s.ar.hit r = some (i, p)) (k : Int) : Calls Tryz.prog 33 #[ptr d.A, .int .i64 r, .int .i64 k] w fun e w' => e = .returned (.int .i64 (wayAt p k)) ∧ w = w' := by
  obtain ⟨FA, h1, h2, h3⟩ := h.ar
  obtain ⟨k1, k2, k3⟩ := hit_some hh
  exact way_yes h1 hok k1 k2 k3 k
/-- How many places are used, by words of the document. -/
def As.used (S : As) : Int := (S.pls.length : Int) - (S.fr.length : Int)
end
end Go.Proofs.YtcegianjpifnbaaGreat
namespace Go.Proofs.YtcegianjpifnbaaGreat
open Go.ChangeShapes Go.WideShapes Go.ChangeAt Go.RowKit
set_option linter.unusedVariables false
set_option linter.unusedSimpArgs false
set_option maxRecDepth 20000

theorem within_yes {n l m : Int} (h : l ≤ n ∧ n ≤ m) (w : World) : Calls Tryz.prog 34 #[.int .i64 n, .int .i64 l, .int .i64 m] w fun e w' => e = .returned (.bool true) ∧ w = w' := by
  obtain ⟨h1, h2⟩ := h
  go_enter Tryz.func34, Tryz.ntmps34
  go_wp2
  go_ret
  exact ⟨rfl, rfl⟩
theorem within_no {n l m : Int} (h : ¬ (l ≤ n ∧ n ≤ m)) (w : World) : Calls Tryz.prog 34 #[.int .i64 n, .int .i64 l, .int .i64 m] w fun e w' => e = .returned (.bool false) ∧ w = w' := by
  by_cases h1 : l ≤ n
  · have h2 : ¬ n ≤ m := fun e => h ⟨h1, e⟩
    clear h
    go_enter Tryz.func34, Tryz.ntmps34
    go_wp2
    go_ret
    exact ⟨rfl, rfl⟩
  · clear h
    go_enter Tryz.func34, Tryz.ntmps34
    go_wp2
    go_ret
    exact ⟨rfl, rfl⟩
/-- A new world's root, and its entry. -/
def rootPa : Pa := ⟨true, 1, Nd.nil, [], 0, false⟩
def entryNd : Nd := ⟨true, false, [], [], [mk 0 1]⟩
def entryPa : Pa := ⟨true, 1, entryNd, [mk 0 1], 0, false⟩
def ini0 (m L : Nat) : Sig := ⟨As.new m, 0, List.replicate L (-1, []), []⟩
def ini1 (m L : Nat) : Sig := ⟨⟨m, [rootPa], [], 0⟩, 0, List.replicate L (-1, []), []⟩
def newSig (m L : Nat) : Sig := ⟨⟨m, [rootPa, entryPa], [], 0⟩, 0, List.replicate L (-1, []), []⟩
theorem make0 (m L : Nat) (h : 2 ≤ m) : gMake Nd.nil (ini0 m L) = (mk 0 1, ini1 m L) := by
  have hr : (As.new m).room := by unfold As.room; simp [As.new]; omega
  have e : (As.new m).make Nd.nil = (mk 0 1, ⟨m, [rootPa], [], 0⟩) := by
    rw [As.make, if_pos hr]
    simp [As.new, As.next, As.cntN, As.alloc, Pa.nil, rootPa, Nd.nil]
  simp only [gMake, ini0, e]
  rfl
theorem make1 (m L : Nat) (h : 2 ≤ m) : gMake entryNd (ini1 m L) = (mk 1 1, newSig m L) := by
  have hr : (⟨m, [rootPa], [], 0⟩ : As).room := by unfold As.room; simp; omega
  have e : (⟨m, [rootPa], [], 0⟩ : As).make entryNd = (mk 1 1, ⟨m, [rootPa, entryPa], [], 0⟩) := by
    rw [As.make, if_pos hr]
    simp [As.next, As.cntN, As.alloc, Pa.nil, entryPa, entryNd]
  simp only [gMake, ini1, e]
  rfl
/-- A new world. -/
def NewW (w : World) (a b : Int) (m L rm : Nat) (e : Ending) (w' : World) : Prop := ∃ d FW, e = .returned (.tuple #[ptr d.W, .int .i64 0]) ∧ WS d FW w' (newSig m L) ∧ (∀ b, FW b → w.heap.size ≤ b) ∧ Below w.heap.size w w' ∧ d.a = a ∧ d.b = b ∧ d.en = mk 1 1 ∧ d.m = rm
section
variable {d : Wd} {FW R R' : Nat → Prop} {w w' w0 : World} {s : Sig} {nd : Nd} {v : Value} {a b t n r : Int}
theorem WS.entry (h : WS d FW w s) (z : Int) : WS { d with en := z } FW (w.setCell ⟨d.W, 5, none⟩ (.int .i64 z)) s ∧ Only FW w (w.setCell ⟨d.W, 5, none⟩ (.int .i64 z)) := by
  refine ⟨?_, Only.set FW w (p := ⟨d.W, 5, none⟩) h.fW _⟩
  obtain ⟨FA, FE, FT, h1, h2, h3, n1, n2, n3, hF, m1, m2, m3⟩ := h.parts
  have ho : Only (· = d.W) w (w.setCell ⟨d.W, 5, none⟩ (.int .i64 z)) := Only.set (· = d.W) w (p := ⟨d.W, 5, none⟩) rfl _
  exact ⟨heap_setCell_same w d.W 5 _ _ _ h.head, FA, FE, FT, h1.only ho (fun b e e2 => m1 (e2 ▸ e)), h2.only ho (fun b e e2 => m2 (e2 ▸ e)), h3.only ho (fun b e e2 => m3 (e2 ▸ e)), n1, n2, n3, hF, m1, m2, m3⟩
theorem ok0 (m L : Nat) (l : List Pa) (hl : l.length ≤ 2) (hc : ∀ p ∈ l, p.cnt = 1) : Ok (⟨m, l, [], 0⟩ : As) := ⟨by simp only; omega, fun p hp => by rw [hc p hp]; omega, by simp, by simp⟩
/-- The parts, put together. -/
theorem ws_new {X1 X2 X3 : World} {A B E : Nat} {FE : Nat → Prop} {m L k : Nat} (h1 : Arn false (fun b => b = A) X1 A (As.new m)) (b2 : Below X1.heap.size X1 X2) (hB : X1.heap.size = B) (ht : TbS (fun b => b = B) X2 B k [])
    (h3 : EpS FE X3 E 0 (List.replicate L (-1, []))) (b3 : Below X2.heap.size X2 X3) (hE : ∀ b, FE b → X2.heap.size ≤ b) (a b : Int) :
    ∃ d FW, d.W = X3.heap.size ∧ d.A = A ∧ d.R = B ∧ d.E = E ∧ d.a = a ∧ d.b = b ∧ d.en = 0 ∧ d.m = k ∧ WS d FW (X3.alloc (.cells #[ptr A, ptr B, ptr E, .int .i64 a, .int .i64 b, .int .i64 0] woT)) (ini0 m L) ∧ ∀ x, FW x → x = A ∨ X1.heap.size ≤ x := by
  have hA : A < X1.heap.size := h1.lt A rfl
  have hs2 := b2.size
  have hs3 := b3.size
  have hB2 : B < X2.heap.size := ht.lt B rfl
  have b4 := below_new X3 (.cells #[ptr A, ptr B, ptr E, .int .i64 a, .int .i64 b, .int .i64 0] woT)
  refine ⟨⟨X3.heap.size, A, B, E, a, b, 0, k⟩, fun x => x = A ∨ FE x ∨ x = B ∨ x = X3.heap.size, rfl, rfl, rfl, rfl, rfl, rfl, rfl, rfl, ⟨heap_alloc_new _ _, fun x => x = A, FE, fun x => x = B, ((h1.below b2).below b3).below b4, h3.below b4, (ht.keep (w' := X3) (fun x e => b3.block x (ht.lt x e)) b3.size).keep (fun x e => b4.block x (Nat.lt_of_lt_of_le (ht.lt x e) b3.size)) b4.size, ?_, ?_, ?_, fun _ => Iff.rfl, ?_, ?_, ?_⟩, ?_⟩
  · intro x e f; have := hE x f; omega
  · intro x e f; omega
  · intro x e f; have := hE x e; omega
  · simp only; omega
  · intro f; have := h3.lt _ f; simp only at this; omega
  · simp only; omega
  · rintro x (e | e | e | e)
    · exact .inl e
    · have := hE x e; omega
    · omega
    · omega
set_option maxHeartbeats 2000000 in
theorem new_ok (w : World) (ha : 2 ≤ a ∧ a ≤ 32) (hb : 2 * a - 1 ≤ b ∧ b ≤ 32) (ht : 1 ≤ t ∧ t ≤ 64) (hn : 2 ≤ n ∧ n ≤ 65536) (hr : 0 ≤ r ∧ r ≤ 65536) :
    Calls Tryz.prog 20 #[.int .i64 a, .int .i64 b, .int .i64 t, .int .i64 n, .int .i64 r] w (NewW w a b n.toNat t.toNat r.toNat) := by
  have m1 : IntKind.i64.wrap (2 * a) = 2 * a := IntWalk.i64_in _ (by omega)
  have m2 : IntKind.i64.wrap (2 * a - 1) = 2 * a - 1 := IntWalk.i64_in _ (by omega)
  have hm1 : arMost n = n.toNat := by unfold arMost; omega
  have hm2 : mostOf t = t.toNat := by unfold mostOf; omega
  have hm : 2 ≤ n.toNat := by omega
  have hm3 : recMost r = r.toNat := by unfold recMost; omega
  have HR := Lib.hid (recNew_walk r)
  rw [hm3] at HR
  have W1 := Lib.hid (within_yes ha)
  have W2 := Lib.hid (within_yes hb)
  have W3 := Lib.hid (within_yes ht)
  have W4 := Lib.hid (within_yes hn)
  have W5 := Lib.hid (within_yes hr)
  have HA := Lib.hid (arNew_walk n)
  have HE := Lib.hid (epNew_walk t)
  rw [hm1] at HA
  rw [hm2] at HE
  clear ha hb ht hn hr hm1 hm2 hm3
  generalize n.toNat = m at *
  generalize r.toNat = rm at *
  generalize t.toNat = L at *
  go_enter Tryz.func20, Tryz.ntmps20
  go_wp2_with fail
  refine (W1.out _).mono ?_
  rintro e w1 ⟨rfl, rfl⟩
  go_wp2_with fail
  refine (W2.out _).mono ?_
  rintro e w1 ⟨rfl, rfl⟩
  go_wp2_with fail
  refine (W3.out _).mono ?_
  rintro e w1 ⟨rfl, rfl⟩
  go_wp2_with fail
  refine (W4.out _).mono ?_
  rintro e w1 ⟨rfl, rfl⟩
  go_wp2_with fail
  refine (W5.out _).mono ?_
  rintro e w1 ⟨rfl, rfl⟩
  clear W1 W2 W3 W4 W5 m1 m2
  go_wp2_with fail
  refine (HA.out w).mono ?_
  rintro e X1 ⟨rfl, hA, b1⟩
  obtain ⟨A, hAe⟩ : ∃ A, w.heap.size = A := ⟨_, rfl⟩
  rw [hAe] at hA ⊢
  clear HA
  go_wp2_with fail
  refine (HR.out X1).mono ?_
  rintro e X2 ⟨rfl, hT, b2⟩
  replace hT : TbS _ X2 X1.heap.size rm [] := ⟨[], _, hT, rfl⟩
  clear HR
  obtain ⟨B, hBe⟩ : ∃ B, X1.heap.size = B := ⟨_, rfl⟩
  rw [hBe] at hT ⊢
  go_wp2_with fail
  refine (HE.out X2).mono ?_
  rintro e X3 ⟨E, FE, rfl, hE, hFE, b3⟩
  obtain ⟨d, FW, dW, dA, dR, dE, da, db, den, dm, hWS, hFW⟩ := ws_new hA b2 hBe hT hE b3 hFE a b
  obtain ⟨X4, hX4⟩ : ∃ X4, X3.alloc (.cells #[ptr A, ptr B, ptr E, .int .i64 a, .int .i64 b, .int .i64 0] woT) = X4 := ⟨_, rfl⟩
  obtain ⟨D, hD⟩ : ∃ D, X3.heap.size = D := ⟨_, rfl⟩
  rw [hX4] at hWS
  rw [hD] at dW
  have hb14 : Below w.heap.size w X4 := by
    rw [← hX4]
    exact ((b1.trans (b2.mono b1.size)).trans (b3.mono (Nat.le_trans b1.size b2.size))).trans ((below_new X3 _).mono (Nat.le_trans b1.size (Nat.le_trans b2.size b3.size)))
  have HS := Lib.hid hWS
  have HFW : Hid (∀ b, FW b → w.heap.size ≤ b) := fun b e => by have := hFW b e; have := b1.size; omega
  have HB := Lib.hid hb14
  have HDW := Lib.hid dW
  have HDa := Lib.hid da
  have HDb := Lib.hid db
  have HDm := Lib.hid dm
  obtain ⟨g0, g1, g2, g3, g4, g5⟩ := hWS.cells
  rw [dW, dA] at g0
  have M1 := make0 m L hm
  have M2 := make1 m L hm
  have HM1 := nxW_make hWS (ok0 m L [] (by simp) (fun p hp => by cases hp)) (fun i hi => by cases hi) (RdF.nil FW X4 false false) (by unfold Nd.small; simp)
  rw [show (⟨false, false, [], [], []⟩ : Nd) = Nd.nil from rfl, M1, dA] at HM1
  have HM1 := Lib.hid HM1
  clear hA b1 hT b2 hE hFE b3 hWS hFW hb14 dW dA dR dE da db den dm g1 g2 g3 g4 g5 M1 HE
  go_wp2_with fail
  refine HM1.out.mono ?_
  rintro e X5 ⟨y, rfl, hn⟩
  clear HM1 g0
  obtain ⟨FW1, hWS, hO1, hF1⟩ := hn
  obtain ⟨X6, g, hX6, hg, b6, c6⟩ : ∃ (X6 : World) (g : Nat), X5.alloc (.cells #[.int .i64 (mk 0 1)] 53) = X6 ∧ X5.heap.size = g ∧ Below X5.heap.size X5 X6 ∧ X6.cell? ⟨g, 0, none⟩ = some (.int .i64 (mk 0 1)) := ⟨_, _, rfl, rfl, below_new _ _, c_new rfl rfl⟩
  have hW6 := hWS.below b6
  obtain ⟨g0, g1, g2, g3, g4, g5⟩ := hWS.cells
  obtain ⟨q0, q1, q2, q3, q4, q5⟩ := hW6.cells
  rw [HDW.out] at g0 q0
  have hv : RdF FW1 X6 (ndv true false (.slice none 0 0) (.slice none 0 0) (.slice (some ⟨g, 0, none⟩) 1 1)) entryNd := by
    refine ⟨none, 0, none, 0, some ⟨g, 0, none⟩, 1, rfl, Lp.nil _, Sl.nil _, sl_one c6, fun ad e => ?_⟩
    rcases e with e | e | e
    · cases e
    · cases e
    · injection e with e
      subst e
      intro f
      have := hWS.lt _ f
      simp only at this
      omega
  have HM2 := nxW_make hW6 (ok0 m L [rootPa] (by simp) (fun p hp => by simp at hp; subst hp; rfl)) (fun i hi => by cases hi) hv (by unfold Nd.small entryNd; simp)
  rw [M2] at HM2
  have HM2 := Lib.hid HM2
  have HO : Hid (∀ Z FZ, WS d FZ Z (newSig m L) → Only FW1 X6 Z → (∀ b, FZ b → FW1 b ∨ X6.heap.size ≤ b) → Below w.heap.size w Z ∧ ∀ b, FZ b → w.heap.size ≤ b) := by
    intro Z FZ _ h2 h3
    have e1 : Below w.heap.size w X5 := HB.out.trans (hO1.below HFW.out HB.out.size)
    have e2 : Below w.heap.size w X6 := e1.trans (b6.mono e1.size)
    have e3 : ∀ b, FW1 b → w.heap.size ≤ b := fun b e => (hF1 b e).elim (HFW.out b) fun e => Nat.le_trans HB.out.size e
    exact ⟨e2.trans (h2.below e3 e2.size), fun b e => (h3 b e).elim (e3 b) fun e => Nat.le_trans e2.size e⟩
  clear hWS hW6 hO1 hF1 b6 c6 hv M2 HB HFW HS g1 g2 g3 g4 g5 q1 q2 q3 q4 q5 hX4 hD hAe hBe
  generalize hdA : d.A = dA at *
  go_wp2_with fail
  refine HM2.out.mono ?_
  rintro e X7 ⟨y2, rfl, FZ, hWS, hO2, hF2⟩
  have hAll := HO.out X7 FZ hWS hO2 hF2
  obtain ⟨hE1, hE2⟩ := hWS.entry (mk 1 1)
  have cW : X7.cell? ⟨D, 5, none⟩ = some (.int .i64 d.en) := by rw [← HDW.out]; exact hWS.cells.2.2.2.2.2
  have fW : X7.frozen? ⟨D, 5, none⟩ = false := by rw [← HDW.out]; exact frozen_of_row X7 d.W 5 _ _ hWS.head
  have HF : Hid (NewW w a b m L rm (.returned (.tuple #[ptr D, .int .i64 0])) (X7.setCell ⟨D, 5, none⟩ (.int .i64 (mk 1 1)))) := by
    refine ⟨{ d with en := mk 1 1 }, FZ, by simp only [HDW.out], by rw [← HDW.out]; exact hE1, hAll.2, ?_, HDa.out, HDb.out, rfl, HDm.out⟩
    rw [← HDW.out]
    exact hAll.1.trans (hE2.below hAll.2 hAll.1.size)
  clear HM2 HO hWS hO2 hF2 hAll hE1 hE2 g0 q0 hdA
  go_wp2
  go_ret2
  exact HF.out
end
end Go.Proofs.YtcegianjpifnbaaGreat
namespace Go.Proofs.YtcegianjpifnbaaGreat
set_option linter.unusedVariables false
set_option linter.unusedSimpArgs false
set_option maxRecDepth 20000

/-- What is shared can be counted, and B touches on, too. -/
structure Inv (L B : Nat) (s : Sig) : Prop where
  len : s.S.length = L
  l64 : L ≤ 64
  pl : s.ar.pls.length + B ≤ 60000
  cnt : ∀ p ∈ s.ar.pls, p.cnt + B ≤ 100000
  flt : s.ar.flt + B ≤ 100000
  frl : s.ar.fr.length + B ≤ 60000
  fr : ∀ i ∈ s.ar.fr, i < s.ar.pls.length
  now : 0 ≤ s.now ∧ s.now + B ≤ 100000
  said : ∀ x ∈ s.S, in64 x.1
  que : ∀ x ∈ s.S, x.2.length + B ≤ 1000 ∧ ∀ p ∈ x.2, in64 p.1 ∧ in64 p.2
  rc : RcOk s
section
variable {L B B' : Nat} {s : Sig} {i : Nat} {z r n : Int} {nd : Nd}
theorem Inv.fit (h : Inv L B s) : Fit s := ⟨⟨by have := h.pl; omega, fun p hp => by have := h.cnt p hp; omega, by have := h.flt; omega, by have := h.frl; omega⟩, h.fr, by have := h.now; omega, by rw [h.len]; exact h.l64, h.said, fun x hx => ⟨by have := (h.que x hx).1; omega, (h.que x hx).2⟩, h.rc⟩
theorem Inv.mono (h : Inv L B s) (hb : B' ≤ B) : Inv L B' s := ⟨h.len, h.l64, by have := h.pl; omega, fun p hp => by have := h.cnt p hp; omega, by have := h.flt; omega, by have := h.frl; omega, h.fr, by have := h.now; omega, h.said, fun x hx => ⟨by have := (h.que x hx).1; omega, (h.que x hx).2⟩, h.rc⟩
/-- Other announcements, other queues. -/
theorem Inv.ep (h : Inv L B s) {S' : List Tq} (hl : S'.length = s.S.length) (hs : ∀ x ∈ S', in64 x.1) (hq : ∀ x ∈ S', x.2.length + B ≤ 1000 ∧ ∀ p ∈ x.2, in64 p.1 ∧ in64 p.2) : Inv L B { s with S := S' } := ⟨hl.trans h.len, h.l64, h.pl, h.cnt, h.flt, h.frl, h.fr, h.now, hs, hq, h.rc⟩
theorem in_set {S : List Tq} {P : Tq → Prop} {y : Tq} (h : ∀ x ∈ S, P x) (hy : P y) : ∀ x ∈ S.set i y, P x := by
  intro x hx
  rcases List.mem_or_eq_of_mem_set hx with hx | rfl
  · exact h x hx
  · exact hy
theorem inv_say (h : Inv L B s) (hz : in64 z) : Inv L B (gSay i z s).2 := by
  simp only [gSay, setSaid]
  cases hi : s.S[i]? with
  | none => exact h
  | some x => exact h.ep (by simp) (in_set h.said hz) (in_set h.que (h.que x (List.mem_of_getElem? hi)))
theorem inv_swap (h : Inv L (B + 1) s) : Inv L B (gSwap n s).2 := by
  unfold gSwap
  split
  · rename_i e
    have h' := h.mono (B' := B) (by omega)
    exact ⟨h'.len, h'.l64, h'.pl, h'.cnt, h'.flt, h'.frl, h'.fr, by have := h.now; simp only; omega, h'.said, h'.que, h'.rc⟩
  · exact h.mono (by omega)
theorem inv_leave (h : Inv L (B + 1) s) (hr : in64 r) (hn : in64 n) : Inv L B (gLeave i r n s).2 := by
  have h' := h.mono (B' := B) (by omega)
  simp only [gLeave]
  cases hi : s.S[i]? with
  | none => exact h'
  | some x =>
    obtain ⟨y, q⟩ := x
    have hx := h.que _ (List.mem_of_getElem? hi)
    have hy := h.said _ (List.mem_of_getElem? hi)
    refine h'.ep (by simp) (in_set h'.said hy) (in_set h'.que ⟨by have := hx.1; simp at this ⊢; omega, fun p hp => ?_⟩)
    rcases List.mem_append.1 hp with hp | hp
    · exact hx.2 p hp
    · obtain rfl : p = (r, n) := by simpa using hp
      exact ⟨hr, hn⟩
theorem inv_rdy (h : Inv L B s) : Inv L B (gRdy i n s).2 := by
  unfold gRdy
  split
  · rename_i y p q hi
    have hx := h.que _ (List.mem_of_getElem? hi)
    have hy := h.said _ (List.mem_of_getElem? hi)
    split
    · exact h.ep (by simp) (in_set h.said hy) (in_set h.que ⟨by have := hx.1; simp at this ⊢; omega, fun p' hp => hx.2 p' (List.mem_cons_of_mem _ hp)⟩)
    · exact h
  · exact h
theorem inv_free (h : Inv L (B + 1) s) : Inv L B (gFree r s).2 := by
  have h' := h.mono (B' := B) (by omega)
  simp only [gFree, As.drop]
  cases hh : s.ar.hit r with
  | none => exact ⟨h'.len, h'.l64, h'.pl, h'.cnt, by have := h.flt; simp only [As.fault]; omega, h'.frl, h'.fr, h'.now, h'.said, h'.que, h'.rc⟩
  | some ip =>
    obtain ⟨j, p⟩ := ip
    obtain ⟨k1, k2, k3⟩ := hit_some hh
    have hj := (List.getElem?_eq_some_iff.1 k1).1
    refine ⟨h'.len, h'.l64, by simp only [As.free, List.length_set]; exact h'.pl, ?_, h'.flt, by have := h.frl; simp only [As.free, List.length_append, List.length_singleton]; omega, ?_, h'.now, h'.said, h'.que, h'.rc.1, fun q hq => (by
      rcases List.mem_or_eq_of_mem_set hq with hq | rfl
      · exact h'.rc.2 q hq
      · unfold in64; simp [Pa.gone])⟩
    · intro q hq
      rcases List.mem_or_eq_of_mem_set hq with hq | rfl
      · exact h'.cnt q hq
      · exact h'.cnt p (List.mem_of_getElem? k1)
    · intro q hq
      simp only [As.free, List.length_set] at hq ⊢
      rcases List.mem_append.1 hq with hq | hq
      · exact h'.fr q hq
      · obtain rfl : q = j := by simpa using hq
        exact hj
theorem inv_ready (h : Inv L (B + 1) s) : Inv L B (gReady i n s).2 := by
  simp only [gReady]
  split
  · exact (inv_rdy h).mono (by omega)
  · exact inv_free (inv_rdy h)
theorem inv_make (h : Inv L (B + 1) s) : Inv L B (gMake nd s).2 := by
  have h' := h.mono (B' := B) (by omega)
  simp only [gMake, As.make]
  by_cases hr : s.ar.room
  · rw [if_pos hr]
    obtain ⟨pa, hp, hc⟩ := next_some h.fr
    have hcn : s.ar.cntN + 1 + B ≤ 100000 := by
      rw [← hc]
      unfold As.next at hp
      cases hf : s.ar.fr with
      | nil =>
        simp only [hf] at hp
        simp at hp
        subst hp
        have := h.flt
        simp [Pa.nil]; omega
      | cons j fr =>
        simp only [hf] at hp
        have := h.cnt pa (List.mem_of_getElem? hp)
        omega
    have hmem : ∀ q ∈ s.ar.next.2.pls, q.cnt + B ≤ 100000 := by
      unfold As.next
      cases hf : s.ar.fr with
      | nil =>
        simp only
        intro q hq
        rcases List.mem_append.1 hq with hq | hq
        · exact h'.cnt q hq
        · obtain rfl : q = Pa.nil := by simpa using hq
          have := h'.flt
          simp [Pa.nil]; omega
      | cons j fr => exact h'.cnt
    have hmi : ∀ q ∈ s.ar.next.2.pls, in64 q.info := by
      unfold As.next
      cases hf : s.ar.fr with
      | nil =>
        simp only
        intro q hq
        rcases List.mem_append.1 hq with hq | hq
        · exact h'.rc.2 q hq
        · obtain rfl : q = Pa.nil := by simpa using hq
          unfold in64; simp [Pa.nil]
      | cons j fr => exact h'.rc.2
    refine ⟨h'.len, h'.l64, ?_, ?_, ?_, ?_, ?_, h'.now, h'.said, h'.que, h'.rc.1, fun q hq => (by
      simp only [As.alloc] at hq
      rcases List.mem_or_eq_of_mem_set hq with hq | rfl
      · exact hmi q hq
      · unfold in64; simp)⟩
    · simp only [As.alloc, List.length_set]
      unfold As.next
      cases hf : s.ar.fr with
      | nil => have := h.pl; simp; omega
      | cons j fr => exact h'.pl
    · intro q hq
      simp only [As.alloc] at hq
      rcases List.mem_or_eq_of_mem_set hq with hq | rfl
      · exact hmem q hq
      · exact hcn
    · simp only [As.alloc]
      unfold As.next
      cases hf : s.ar.fr with
      | nil => exact h'.flt
      | cons j fr => exact h'.flt
    · simp only [As.alloc]
      unfold As.next
      cases hf : s.ar.fr with
      | nil => have := h'.frl; simp; omega
      | cons j fr => have := h'.frl; rw [hf] at this; simp at this ⊢; omega
    · intro q hq
      simp only [As.alloc, List.length_set] at hq ⊢
      unfold As.next at hq ⊢
      cases hf : s.ar.fr with
      | nil => simp only [hf] at hq; cases hq
      | cons j fr =>
        simp only [hf] at hq ⊢
        exact h.fr q (by rw [hf]; exact List.mem_cons_of_mem _ hq)
  · rw [if_neg hr]; exact h'
theorem in01 : in64 0 ∧ in64 1 ∧ in64 (-1) := by unfold in64; omega
theorem make_in : in64 (gMake nd s).1 := by
  simp only [gMake, As.make]
  split
  · have := mk_range (s.ar.next.1 : Int) ((s.ar.cntN + 1 : Nat) : Int)
    unfold in64; simp only; omega
  · exact in01.1
theorem free_01 : (gFree r s).1 = 0 ∨ (gFree r s).1 = 1 := by
  simp only [gFree, As.drop]
  split <;> simp
end

/-- A tree whose touches keep the budget, told numbers that may be. -/
def tame {α : Type} (L : Nat) : Tr α → Prop
  | .ret _ => True
  | .tch g K => (∀ B s, Inv L (B + 1) s → Inv L B (g s).2 ∧ in64 (g s).1) ∧ ∀ z, in64 z → tame L (K z)
  | .lk _ K => ∀ r, tame L (K r)
theorem tame_bind {α β : Type} {L : Nat} {t : Tr α} {K : α → Tr β} (h : tame L t) (hK : ∀ v, tame L (K v)) : tame L (t.bind K) := by
  induction t with
  | ret v => exact hK v
  | tch g K' ih => exact ⟨h.1, fun z hz => ih z (h.2 z hz)⟩
  | lk n K' ih => exact fun r => ih r (h r)
theorem all_mono {α : Type} {P Q : Sig → Prop} (hPQ : ∀ s, P s → Q s) {t : Tr α} {s : Sig} (h : all P t s) : all Q t s := by
  induction t generalizing s with
  | ret v => exact hPQ _ h
  | tch g K ih => exact ⟨hPQ _ h.1, ih _ h.2⟩
  | lk n K ih => exact ih _ h
theorem tame_all {α : Type} {L : Nat} {t : Tr α} (ht : tame L t) : ∀ (s : Sig) (B : Nat), Inv L (B + (ev t s).2.2) s → all (Inv L B) t s ∧ Inv L B (ev t s).2.1 := by
  induction t with
  | ret v => intro s B h; exact ⟨h, h⟩
  | tch g K ih =>
    intro s B h
    simp only [ev] at h
    have h1 := (ht.1 (B + (ev (K (g s).1) (g s).2).2.2) s (by rw [Nat.add_assoc]; exact h))
    have h2 := ih (g s).1 (ht.2 _ h1.2) (g s).2 B h1.1
    exact ⟨⟨h.mono (by omega), h2.1⟩, h2.2⟩
  | lk n K ih => intro s B h; exact ih _ (ht _) s B h
section
variable {L : Nat}
theorem tame_now {α : Type} {K : Int → Tr α} (hK : ∀ z, in64 z → tame L (K z)) : tame L (.tch gNow K) := ⟨fun B s h => ⟨h.mono (by omega), by have := h.now; simp only [gNow]; unfold in64; omega⟩, hK⟩
theorem tame_say {α : Type} {K : Int → Tr α} {i : Nat} {n : Int} (hn : in64 n) (hK : ∀ z, in64 z → tame L (K z)) : tame L (.tch (gSay i n) K) := ⟨fun B s h => ⟨inv_say (h.mono (by omega)) hn, in01.1⟩, hK⟩
theorem tame_tAll (now : Int) (r j : Nat) : tame L (tAll now r j) := by
  induction r generalizing j with
  | zero => exact trivial
  | succ r ih =>
    refine ⟨fun B s h => ⟨h.mono (by omega), saidOf_in h.fit j⟩, fun z _ => ?_⟩
    dsimp only
    split
    · exact trivial
    · exact ih _
theorem tame_tFree (i : Nat) (n : Int) (N : Nat) : tame L (tFree i n N) := by
  induction N with
  | zero => exact trivial
  | succ N ih =>
    refine ⟨fun B s h => ⟨inv_ready h, gRdy_in h.fit i n⟩, fun z _ => ?_⟩
    dsimp only
    split
    · exact trivial
    · exact ih
theorem tame_tSwap (b : Bool) (n : Int) : tame L (tSwap b n) := by
  unfold tSwap
  split
  · exact ⟨fun B s h => ⟨inv_swap h, by rcases gSwap_01 n s with e | e <;> rw [e]; exact in01.1; exact in01.2.1⟩, fun z _ => trivial⟩
  · exact trivial
theorem tame_tBegin (N L' i : Nat) : tame L (tBegin N L' i) := by
  refine tame_now fun now hn => tame_say hn fun _ _ => tame_bind (tame_tAll now L' 0) fun b => tame_bind (tame_tSwap b now) fun _ => tame_now fun n _ => tame_tFree i n N
theorem tame_tEnd (i : Nat) : tame L (tEnd i) := tame_say in01.2.2 fun _ _ => trivial
theorem tame_tDrop (l : List Int) : tame L (tDrop l) := by
  induction l with
  | nil => exact trivial
  | cons r l ih =>
    unfold tDrop
    split
    · exact ih
    · exact ⟨fun B s h => ⟨inv_free h, by rcases free_01 (r := r) (s := s) with e | e <;> rw [e]; exact in01.1; exact in01.2.1⟩, fun z _ => ih⟩
theorem tame_tLeave (i : Nat) (l : List Int) (hl : ∀ r ∈ l, in64 r) : tame L (tLeave i l) := by
  induction l with
  | nil => exact trivial
  | cons r l ih => exact tame_now fun n hn => ⟨fun B s h => ⟨inv_leave h (hl r (List.mem_cons_self ..)) hn, in01.1⟩, fun z _ => ih fun r hr => hl r (List.mem_cons_of_mem _ hr)⟩
end
/-- A new world's. -/
theorem inv_new (m L B : Nat) (hm : m ≤ 65536) (hL : L ≤ 64) (hB : B ≤ 900) : Inv L B (newSig m L) := by
  refine ⟨by simp [newSig], hL, by simp [newSig]; omega, ?_, by simp [newSig]; omega, by simp [newSig]; omega, fun i hi => (by cases hi), (by simp only [newSig]; omega), ?_, ?_, ⟨by simp [newSig], fun p hp => (by
    simp only [newSig, List.mem_cons, List.not_mem_nil, or_false] at hp
    rcases hp with rfl | rfl <;> (unfold in64; simp [rootPa, entryPa]))⟩⟩
  · intro p hp
    simp only [newSig, List.mem_cons, List.not_mem_nil, or_false] at hp
    rcases hp with rfl | rfl
    · simp only [rootPa]; omega
    · simp only [entryPa]; omega
  · intro x hx
    obtain ⟨_, rfl⟩ := List.mem_replicate.1 hx
    exact in01.2.2
  · intro x hx
    obtain ⟨_, rfl⟩ := List.mem_replicate.1 hx
    exact ⟨by simp only [List.length_nil]; omega, fun p hp => by cases hp⟩
end Go.Proofs.YtcegianjpifnbaaGreat
namespace Go.Proofs.YtcegianjpifnbaaGreat
open Go.ChangeShapes Go.WideShapes Go.ChangeAt Go.RowKit
set_option linter.unusedVariables false
set_option linter.unusedSimpArgs false
set_option maxRecDepth 20000

/-- Work that a law hands in, wherever R's blocks are as they were in w. -/
def Job {α : Type} (d : Wd) (R : Nat → Prop) (w : World) (F me : Nat) (capw : Array Value) (P : Sig → Prop) (t : Tr α) (out : α → List Int) : Prop :=
  ∀ a wk R' w', (∀ b, R b → R' b) → (∀ b, R b → w'.heap[b]? = w.heap[b]?) → Works d R' w' a F (#[tkV a d.W me] ++ capw) wk P t out
def nilOut (u : Unit) : List Int := []
def tBE (N L i : Nat) : Tr Unit := (tBegin N L i).bind fun _ => tEnd i
section
variable {d : Wd} {R R' : Nat → Prop} {w w' w0 : World} {a st ph k me L : Nat} {wk : Value} {zs : List Int} {c : Cur} {s : Sig} {n : Int}
theorem PostW.of {o : Out Unit} {e : Ending} {e' : Ending} (h : Post d R w a wk uV o e w') (he : ∀ v c s, o = .ret v c s → e' = .returned (.slice none 0 0)) (hw : ∀ zs st s, o = .wait zs st s → e' = e) : PostW d R w a wk nilOut o e' w' := by
  cases o with
  | ret v c s => exact ⟨h.1, ⟨none, 0, 0, he v c s rfl, Sl.nil _, by simp [nilOut]⟩, h.2.2⟩
  | wait zs st s => exact ⟨h.1, (hw zs st s rfl).trans h.2.1, h.2.2⟩
theorem tBE_len (N L i : Nat) (hL : lenP L s) {v : Unit} {c' : Cur} {s' : Sig} (h : run (tBegin N L i) c s = .ret v c' s') : lenP L s' := by
  refine run_keeps (P := lenP L) ?_ hL h
  refine ⟨fun s e => e, fun z => ⟨fun s e => (gSay_len i z s).trans e, fun _ => keeps_bind (lenP_all L z L 0) fun b => keeps_bind ?_ fun _ => ⟨fun s e => e, fun n => ?_⟩⟩⟩
  · unfold tSwap
    split
    · exact ⟨fun s e => (by unfold lenP; rw [gSwap_len]; exact e), fun _ => trivial⟩
    · exact trivial
  · clear h
    induction N with
    | zero => exact trivial
    | succ N ih =>
      refine ⟨fun s e => ?_, fun z => ?_⟩
      · unfold lenP at e ⊢
        have h1 : (gRdy i n s).2.S.length = s.S.length := by
          unfold gRdy
          split
          · split
            · simp
            · rfl
          · rfl
        simp only [gReady]
        split
        · rw [h1]; exact e
        · simp only [gFree]; rw [h1]; exact e
      · dsimp only
        split
        · exact trivial
        · exact ih
end
end Go.Proofs.YtcegianjpifnbaaGreat
namespace Go.Proofs.YtcegianjpifnbaaGreat
open Go Go.RowKit

section
variable {P : Program} {ops : Array Oper} {Q : Exit → Act → World → Prop} {md : Region.Mode} {C : World → Prop} {st : Nat → Bool} {i j : Nat} {listed : Array Bool}
/-- With the slot named. -/
theorem takeX (i d : Nat) {oi : Oper} {v : Value} {n : Nat} {a : Act} {w : World} (hi : ops[i]? = some oi) (hd : oi.dst = some d)
    (hs : Region.noSelect ops = true) (hf : Region.free md ops listed i = true) (hr : (Region.ready md ops listed).contains i = true) (hcl : closedB md ops listed = true) (hwt : waitsW md ops st i = true)
    (hQ : ∀ c (a : Act) t w, Q (.panic c) { a with tmps := t } w → Q (.panic c) a w) (hC : C w) (hw : Region.wanted oi (yielded ops a.tmps) = true) (hy : ∀ w, C w → (execOp a.eval oi).run P w = .ok (.value v) w)
    (h : anyT P md ops Q C st n (listed.setIfInBounds i true) { a with tmps := a.tmps.setIfInBounds d v } w) : anyT P md ops Q C st (n + 1) listed a w :=
  takeW hi hs hf hr hcl hwt (fun c a w h => by rw [hd] at h; exact hQ c a _ w h) hC hw hy (by rw [hd]; exact h)
theorem skipX (i d : Nat) {oi : Oper} {n : Nat} {a : Act} {w : World} (hi : ops[i]? = some oi) (hd : oi.dst = some d)
    (hs : Region.noSelect ops = true) (hf : Region.free md ops listed i = true) (hr : (Region.ready md ops listed).contains i = true) (hcl : closedB md ops listed = true) (hwt : waitsW md ops st i = true)
    (hQ : ∀ c (a : Act) t w, Q (.panic c) { a with tmps := t } w → Q (.panic c) a w) (hC : C w) (hw : Region.wanted oi (yielded ops a.tmps) = false)
    (h : anyT P md ops Q C st n (listed.setIfInBounds i true) { a with tmps := a.tmps.setIfInBounds d undef } w) : anyT P md ops Q C st (n + 1) listed a w :=
  take_nowW (v := undef) hi (Region.noSelect_spec hs) (fun c a w h => by rw [hd] at h; exact hQ c a _ w h) hwt n listed a w (closed_of hcl) (Region.free_spec hi hf) (List.contains_iff_mem.1 hr) (.inr ⟨hw, rfl⟩) hC (by rw [hd]; exact h)
theorem threeT {P : Program} {ops : Array Oper} {Q : Exit → Act → World → Prop} {md : Region.Mode} {C : World → Prop} {st : Nat → Bool} {i j l : Nat} {listed : Array Bool} {o o' o'' : Oper} {n : Nat} {a : Act} {w : World} (hr : Region.ready md ops listed = [i, j, l]) (hi : ops[i]? = some o) (hj : ops[j]? = some o') (hl : ops[l]? = some o'') (hw : Region.wanted o (yielded ops a.tmps) = true) (hw' : Region.wanted o' (yielded ops a.tmps) = true) (hw'' : Region.wanted o'' (yielded ops a.tmps) = true)
    (h : ∀ K : Act → World → Prop, Hid (∀ a' w', (st i = false → C w') → anyT P md ops Q C st n (listed.setIfInBounds i true) a' w' → K a' w') → Oper.wp P o a w K Q)
    (h' : ∀ K : Act → World → Prop, Hid (∀ a' w', (st j = false → C w') → anyT P md ops Q C st n (listed.setIfInBounds j true) a' w' → K a' w') → Oper.wp P o' a w K Q)
    (h'' : ∀ K : Act → World → Prop, Hid (∀ a' w', (st l = false → C w') → anyT P md ops Q C st n (listed.setIfInBounds l true) a' w' → K a' w') → Oper.wp P o'' a w K Q) : anyT P md ops Q C st (n + 1) listed a w := by
  refine ⟨fun h0 => (by rw [hr] at h0; cases h0), fun k hk => ?_⟩
  rw [hr] at hk
  simp only [List.mem_cons, List.not_mem_nil, or_false] at hk
  rcases hk with rfl | rfl | rfl
  · exact wpOp_step hi fun K hK => by rw [if_pos hw]; exact h K fun a' w' h1 h2 => hK a' w' ⟨h1, h2⟩
  · exact wpOp_step hj fun K hK => by rw [if_pos hw']; exact h' K fun a' w' h1 h2 => hK a' w' ⟨h1, h2⟩
  · exact wpOp_step hl fun K hK => by rw [if_pos hw'']; exact h'' K fun a' w' h1 h2 => hK a' w' ⟨h1, h2⟩
end
end Go.Proofs.YtcegianjpifnbaaGreat
namespace Go.Proofs.YtcegianjpifnbaaGreat
open Go.ChangeShapes Go.WideShapes Go.ChangeAt Go.RowKit
set_option linter.unusedVariables false
set_option linter.unusedSimpArgs false
set_option maxRecDepth 20000

section
variable {d : Wd} {R R' : Nat → Prop} {w w' w0 : World} {a st ph k me : Nat} {wk : Value} {zs : List Int} {c : Cur} {s : Sig} {n : Int}
theorem Sl.row {B : Nat} {el : TypeId} {A : Option Addr} {m q : Nat} {zs : List Int} (h : Row el B w (.slice A m q) zs) : ∀ ad : Addr, A = some ad → B ≤ ad.block ∧ ad.block < w.heap.size := by
  intro ad e
  subst e
  have := World.ownsRow.lt h ad.block (by simp [Value.ownBlock])
  exact this
set_option maxHeartbeats 4000000 in
theorem record_touch {ns is : List Int} {kp wy od nw : Int} (h : Lv d R w a wk c s) (hr : rcOf s.rs n = ⟨ns, is, kp, wy, od, nw⟩) (hk : 0 ≤ kp) (hl : ns.length = is.length) (hm : ns.length ≤ 20) (hrs : s.rs.length ≤ 1000) :
    Calls Tryz.prog 119 #[tkV a d.W me, .int .i64 n] w (Post d R w a wk bV (run (tHelp ⟨ns, is, kp, wy, od, nw⟩ n) c s)) := by
  have e3 := mk_fn
  obtain ⟨W, p, hW, hp, bb, tk, hsz⟩ := one_box w a d.W me
  obtain ⟨u, hu⟩ : ∃ u, run (tHelp ⟨ns, is, kp, wy, od, nw⟩ n) c s = u := ⟨_, rfl⟩
  rw [hu]
  have HB : Hid (BS d R (fun b => R b ∨ b = p) w a me wk p s.S.length (c.zs.length + 2) u (tHelp ⟨ns, is, kp, wy, od, nw⟩ n) W c s) := ⟨hu.symm, h.more bb (fun b e => e.imp id fun e => by omega), fun b e => e, Kp.new h bb, tk, rfl, fun _ => Nat.le_refl _⟩
  have HPW : Hid (p + 1 = W.heap.size) := hsz.symm
  generalize s.S.length = L at HB
  generalize c.zs.length + 2 = N at HB
  obtain ⟨F0, FW0, T0, -, hWS, -, -⟩ := HB.out.lv.lv
  have HLk := nxW_rlook hWS hrs n
  rw [hr] at HLk
  have HLk := Lib.hid HLk
  have g1 := hWS.cells.2.1
  obtain ⟨t0, t1, t2⟩ := tk
  clear h bb hu hsz hr hWS hrs
  go_enter Tryz.func119, Tryz.ntmps119
  go_wp2_with fail
  (try rw [hW])
  refine HLk.out.mono ?_
  rintro e X ⟨u1, u2, rfl, hr1, hr2, hbX⟩
  clear HLk t0 t1 t2 g1 hW hp
  obtain ⟨A, m, c0, rfl⟩ := hr1.shape
  obtain ⟨B, m', c1, rfl⟩ := hr2.shape
  have hs1 := hr1.sl
  have hs2 := hr2.sl
  obtain rfl : m = ns.length := hs1.len
  obtain rfl : m' = is.length := hs2.len
  have a1 := Sl.row hr1
  have a2 := Sl.row hr2
  have b1 := hbX.size
  obtain ⟨Z, q, hZ, hq, h6, bZ, sZ⟩ : ∃ (Z : World) (q : Nat), X.alloc (.cells #[.slice none 0 0, .slice none 0 0, .int .i64 0, .int .i64 0, .int .i64 0, .int .i64 0] 186) = Z ∧ X.heap.size = q ∧ Six Z q (.slice none 0 0) (.slice none 0 0) 0 0 0 0 ∧ Below X.heap.size X Z ∧ Z.heap.size = q + 1 := ⟨_, _, rfl, rfl, Six.new X rfl _ _ _ _ _ _, below_new _ _, by simp⟩
  obtain ⟨z0, z1, z2, z3, z4, z5⟩ := h6.cells
  obtain ⟨f0, f1, f2, f3, f4, f5⟩ := h6.frees
  obtain ⟨Y, hY⟩ : ∃ Y, put6 Z q (.slice A ns.length c0) (.slice B is.length c1) kp wy od nw = Y := ⟨_, rfl⟩
  have h6Y : Six Y q (.slice A ns.length c0) (.slice B is.length c1) kp wy od nw := by rw [← hY]; exact h6.put
  have bY : Below X.heap.size X Y := by rw [← hY]; exact below_put6 bZ (by omega)
  have sY : Y.heap.size = q + 1 := by rw [← hY]; simp [sZ]
  have bWY : Below W.heap.size W Y := hbX.trans (bY.mono b1)
  have HSN := Lib.hid (hs1.below bY)
  have HSI := Lib.hid (hs2.below bY)
  have HAN : Hid (∀ ad, A = some ad → p ≤ ad.block ∧ ad.block ≤ q) := fun ad e => by have := a1 ad e; have := HPW.out; omega
  have HAI : Hid (∀ ad, B = some ad → p ≤ ad.block ∧ ad.block ≤ q) := fun ad e => by have := a2 ad e; have := HPW.out; omega
  have HX : Hid (p ≤ q) := by show p ≤ q; have := HPW.out; omega
  have HB1 : Hid (BS d R (fun b => R b ∨ p ≤ b ∧ b ≤ q) w a me wk p L N u (tTakes ⟨ns, is, kp, wy, od, nw⟩ n ((ns.zip is).drop 0)) Y c s) := HB.out.more bWY (fun b e => by
    rcases e with e | e
    · exact .inl (.inl e)
    · by_cases e2 : b = p
      · exact .inl (.inr e2)
      · exact .inr (by have := HPW.out; omega)) (fun b e => e.imp id fun e => by have := HX.out; omega)
  have HV1 := Lib.hid h6Y
  have HK1 : Hid (Kp (fun b => R b ∨ p ≤ b ∧ b ≤ q) Y Y) := Kp.refl _ _
  obtain ⟨M, hM⟩ : ∃ M, ns.length = M := ⟨_, rfl⟩
  have hM2 : is.length = M := by omega
  rw [hM] at HSN h6Y HV1 hm hY
  rw [hM2] at HSI h6Y HV1 hY
  (try rw [hM]); (try rw [hM2])
  have HM1 := Lib.hid hM
  have HM2 := Lib.hid hM2
  obtain ⟨x0, x1, x2, x3, x4, x5⟩ := h6Y.cells
  clear hr1 hr2 hs1 hs2 a1 a2 b1 h6 bZ sZ bY sY bWY h6Y HB hbX hl hM hM2
  go_wp2_with fail
  (try rw [hY])
  clear z0 z1 z2 z3 z4 z5 f0 f1 f2 f3 f4 f5 hZ hq hY x0 x1 x2 x3 x4 x5
  go_loopg [26] M (fun gk i wr => ∃ (j : Nat) (c' : Cur) (s' : Sig), j + gk = M ∧ i = .int .i64 (j : Int) ∧ Hid (BS d R (fun b => R b ∨ p ≤ b ∧ b ≤ q) w a me wk p L N u (tTakes ⟨ns, is, kp, wy, od, nw⟩ n ((ns.zip is).drop j)) wr c' s') ∧ Hid (Kp (fun b => R b ∨ p ≤ b ∧ b ≤ q) Y wr))
  case atStart => exact ⟨0, c, s, by omega, rfl, HB1.out, HK1.out⟩
  case round =>
    clear HB1 HK1
    obtain ⟨j, c1', s1, hj, rfl, HH, HK⟩ := hrel
    by_cases hlt : j < M
    case neg =>
      have i1 : ¬ ((j : Int) < (M : Int)) := by omega
      have HB2 : Hid (BS d R (fun b => R b ∨ p ≤ b ∧ b ≤ q) w a me wk p L N u ((tFinish ⟨ns, is, kp, wy, od, nw⟩ n).bind fun _ => .ret true) wr c1' s1) := by
        have hB := HH.out
        rw [List.drop_eq_nil_of_le (by rw [List.length_zip, HM1.out]; omega)] at hB
        exact hB
      have h6 := HV1.out.kp HK.out (.inr ⟨HX.out, Nat.le_refl _⟩)
      obtain ⟨x0, x1, x2, x3, x4, x5⟩ := h6.cells
      obtain ⟨t0, t1, t2⟩ := HB2.out.tk
      have HD := Lib.hid (finish_touch (me := me) (n := n) (A := A) (B := B) (m := M) (c0 := c0) (m' := M) (c1 := c1) (ns := ns) (is := is) (kp := kp) (wy := wy) (od := od) (nw := nw) HB2.out.lv (HSN.out.kp (R := fun b => R b ∨ p ≤ b ∧ b ≤ q) (fun ad e => .inr (HAN.out ad e)) HK.out) (fun ad e => .inr (HAN.out ad e)) (by omega) hk)
      clear HH h6 HK
      go_wp2_with fail
      refine HD.out.mono ?_
      clear HD t0 t1 t2 x0 x1 x2 x3 x4 x5
      intro e w3 hP
      have hT := BS.call (t := tFinish ⟨ns, is, kp, wy, od, nw⟩ n) (K := fun _ => .ret true) (U := bV) (Q := fun _ => True) HB2.out (finish_keeps _ n) (fun _ _ _ _ => trivial) hP
      clear hP
      obtain ⟨v, c2, s2, rfl, -, hB, hKp⟩ | ⟨rfl, hP⟩ := hT
      case inr => exact ⟨rfl, hP⟩
      have HE := Lib.hid (BS.end_ (U := bV) hB)
      clear hB hKp HB2
      go_wp2
      go_ret
      exact HE.out
    have i1 : (j : Int) < (M : Int) := by omega
    have i0 : (0 : Int) ≤ (j : Int) := by omega
    have hkw : IntKind.i64.wrap ((j : Int) + 1) = (j : Int) + 1 := IntWalk.i64_in _ (by omega)
    have hj1 : j < ns.length := by rw [HM1.out]; exact hlt
    have hj2 : j < is.length := by rw [HM2.out]; exact hlt
    obtain ⟨ba, off, rfl, hbl, hc⟩ := (HSN.out.kp (R := fun b => R b ∨ p ≤ b ∧ b ≤ q) (fun ad e => .inr (HAN.out ad e)) HK.out).at_ hj1
    obtain ⟨ba2, off2, rfl, hbl2, hc2⟩ := (HSI.out.kp (R := fun b => R b ∨ p ≤ b ∧ b ≤ q) (fun ad e => .inr (HAI.out ad e)) HK.out).at_ hj2
    obtain ⟨r, hr⟩ : ∃ r, ns[j] = r := ⟨_, rfl⟩
    obtain ⟨o, ho⟩ : ∃ o, is[j] = o := ⟨_, rfl⟩
    rw [hr] at hc
    rw [ho] at hc2
    have hdr : (ns.zip is).drop j = (r, o) :: (ns.zip is).drop (j + 1) := by
      rw [List.drop_eq_getElem_cons (by rw [List.length_zip]; omega), List.getElem_zip, hr, ho]
    have HBj : Hid (BS d R (fun b => R b ∨ p ≤ b ∧ b ≤ q) w a me wk p L N u ((tTake r o n).bind fun b => if b = true then tTakes ⟨ns, is, kp, wy, od, nw⟩ n ((ns.zip is).drop (j + 1)) else tSettle n) wr c1' s1) := by
      have hB := HH.out
      rw [hdr] at hB
      exact hB
    have h6 := HV1.out.kp HK.out (.inr ⟨HX.out, Nat.le_refl _⟩)
    obtain ⟨x0, x1, x2, x3, x4, x5⟩ := h6.cells
    obtain ⟨t0, t1, t2⟩ := HBj.out.tk
    clear HH hr ho hj1 hj2 hdr h6 x0 x2 x3 x4 x5
    go_wp2_with fail
    clear hc
    refine region_T (fun _ => false) (fun w' => w'.cell? ⟨p, 0, none⟩ = some (ptr a) ∧ w'.cell? ⟨p, 1, none⟩ = some (ptr d.W) ∧ w'.cell? ⟨p, 2, none⟩ = some (.int .i64 (me : Int)) ∧ w'.cell? ⟨q, 1, none⟩ = some (.slice (some ⟨ba2, off2, none⟩) M c1) ∧ w'.cell? ⟨ba2, off2 + j, none⟩ = some (.int .i64 o)) (by kernel_rfl) ?_
    obtain ⟨X0, hX0, hbX0⟩ : ∃ X0 : World, wr.drew = X0 ∧ Below wr.heap.size wr X0 := ⟨_, rfl, (Below.refl _ wr).drew⟩
    have HB1 := Lib.hid (HBj.out.below hbX0)
    have hC : X0.cell? ⟨p, 0, none⟩ = some (ptr a) ∧ X0.cell? ⟨p, 1, none⟩ = some (ptr d.W) ∧ X0.cell? ⟨p, 2, none⟩ = some (.int .i64 (me : Int)) ∧ X0.cell? ⟨q, 1, none⟩ = some (.slice (some ⟨ba2, off2, none⟩) M c1) ∧ X0.cell? ⟨ba2, off2 + j, none⟩ = some (.int .i64 o) := ⟨below_read hbX0 t0, below_read hbX0 t1, below_read hbX0 t2, below_read hbX0 x1, below_read hbX0 hc2⟩
    have HK1 : Hid (Kp (fun b => R b ∨ p ≤ b ∧ b ≤ q) Y X0) := HK.out.trans (Kp.below hbX0 HBj.out.lv.lt)
    have hba := HAI.out _ rfl
    rw [hX0]
    clear hX0 HBj HK t0 t1 t2 x1 hc2 hbX0 hbl hbl2
    refine takeW (i := 0) (v := ?_) rfl (by kernel_rfl) (by kernel_rfl) (by kernel_rfl) (by kernel_rfl) (by kernel_rfl) (fun _ _ _ h => h) hC (by rfl) ?_ ?_
    rotate_left
    · intro w hSw; (try dsimp only at hSw); go_simp; try (with_reducible rfl)
    try simp only [Act.put, List.setIfInBounds_toArray, List.set_cons_zero, List.set_cons_succ]
    refine takeW (i := 1) (v := ?_) rfl (by kernel_rfl) (by kernel_rfl) (by kernel_rfl) (by kernel_rfl) (by kernel_rfl) (fun _ _ _ h => h) hC (by rfl) ?_ ?_
    rotate_left
    · intro w hSw; (try dsimp only at hSw); go_simp; try (with_reducible rfl)
    try simp only [Act.put, List.setIfInBounds_toArray, List.set_cons_zero, List.set_cons_succ]
    refine takeW (i := 2) (v := ?_) rfl (by kernel_rfl) (by kernel_rfl) (by kernel_rfl) (by kernel_rfl) (by kernel_rfl) (fun _ _ _ h => h) hC (by rfl) ?_ ?_
    rotate_left
    · intro w hSw; (try dsimp only at hSw); go_simp; try (with_reducible rfl)
    try simp only [Act.put, List.setIfInBounds_toArray, List.set_cons_zero, List.set_cons_succ]
    refine takeW (i := 3) (v := ?_) rfl (by kernel_rfl) (by kernel_rfl) (by kernel_rfl) (by kernel_rfl) (by kernel_rfl) (fun _ _ _ h => h) hC (by rfl) ?_ ?_
    rotate_left
    · intro w hSw; (try dsimp only at hSw); go_simp; try (with_reducible rfl)
    try simp only [Act.put, List.setIfInBounds_toArray, List.set_cons_zero, List.set_cons_succ]
    refine takeW (i := 4) (v := ?_) rfl (by kernel_rfl) (by kernel_rfl) (by kernel_rfl) (by kernel_rfl) (by kernel_rfl) (fun _ _ _ h => h) hC (by rfl) ?_ ?_
    rotate_left
    · intro w hSw; (try dsimp only at hSw); go_simp; try (with_reducible rfl)
    try simp only [Act.put, List.setIfInBounds_toArray, List.set_cons_zero, List.set_cons_succ]
    refine takeW (i := 5) (v := ?_) rfl (by kernel_rfl) (by kernel_rfl) (by kernel_rfl) (by kernel_rfl) (by kernel_rfl) (fun _ _ _ h => h) hC (by rfl) ?_ ?_
    rotate_left
    · intro w hSw; (try dsimp only at hSw); go_simp; try (with_reducible rfl)
    try simp only [Act.put, List.setIfInBounds_toArray, List.set_cons_zero, List.set_cons_succ]
    refine takeW (i := 6) (v := ?_) rfl (by kernel_rfl) (by kernel_rfl) (by kernel_rfl) (by kernel_rfl) (by kernel_rfl) (fun _ _ _ h => h) hC (by rfl) ?_ ?_
    rotate_left
    · intro w hSw; (try dsimp only at hSw); go_simp; try (with_reducible rfl)
    try simp only [Act.put, List.setIfInBounds_toArray, List.set_cons_zero, List.set_cons_succ]
    refine takeW (i := 7) (v := ?_) rfl (by kernel_rfl) (by kernel_rfl) (by kernel_rfl) (by kernel_rfl) (by kernel_rfl) (fun _ _ _ h => h) hC (by rfl) ?_ ?_
    rotate_left
    · intro w hSw; (try dsimp only at hSw); go_simp; try (with_reducible rfl)
    try simp only [Act.put, List.setIfInBounds_toArray, List.set_cons_zero, List.set_cons_succ]
    refine oneT (i := 8) (by kernel_rfl) rfl (by rfl) (fun K hK => ?_)
    go_simp
    refine (take_touch (me := me) (n := n) (r := r) (o := o) HB1.out.lv).mono ?_
    intro e w2 hP
    have hT := BS.call (t := tTake r o n) (K := fun b => if b = true then tTakes ⟨ns, is, kp, wy, od, nw⟩ n ((ns.zip is).drop (j + 1)) else tSettle n) (U := bV) (Q := fun _ => True) HB1.out (take_keeps r o n) (fun _ _ _ _ => trivial) hP
    clear hP
    obtain ⟨v, c3, s3, rfl, -, hB, hKp⟩ | ⟨rfl, hP⟩ := hT
    case inr => exact ⟨rfl, hP⟩
    have hC2 : w2.cell? ⟨p, 0, none⟩ = some (ptr a) ∧ w2.cell? ⟨p, 1, none⟩ = some (ptr d.W) ∧ w2.cell? ⟨p, 2, none⟩ = some (.int .i64 (me : Int)) ∧ w2.cell? ⟨q, 1, none⟩ = some (.slice (some ⟨ba2, off2, none⟩) M c1) ∧ w2.cell? ⟨ba2, off2 + j, none⟩ = some (.int .i64 o) := ⟨hB.tk.c0, hB.tk.c1, hB.tk.c2, hKp.read (.inr ⟨HX.out, Nat.le_refl _⟩) hC.2.2.2.1, hKp.read (.inr hba) hC.2.2.2.2⟩
    refine hK.out _ _ (fun _ => hC2) ?_
    have HB2 := Lib.hid hB
    have HK2 : Hid (Kp (fun b => R b ∨ p ≤ b ∧ b ≤ q) Y w2) := HK1.out.trans hKp
    clear hK K hC hB hKp HB1 HK1
    have hC := hC2
    clear hC2
    try simp only [Act.put, List.setIfInBounds_toArray, List.set_cons_zero, List.set_cons_succ]
    refine oneT (i := 9) (by kernel_rfl) rfl (by rfl) (fun K hK => ?_)
    go_simp
    refine hK.out _ _ (fun _ => hC) ?_
    clear hK K
    try simp only [Act.put, List.setIfInBounds_toArray, List.set_cons_zero, List.set_cons_succ]
    refine doneT (by kernel_rfl) ?_
    obtain ⟨t0, t1, t2, -, -⟩ := hC
    cases v with
    | true =>
      have HB3 : Hid (BS d R (fun b => R b ∨ p ≤ b ∧ b ≤ q) w a me wk p L N u (tTakes ⟨ns, is, kp, wy, od, nw⟩ n ((ns.zip is).drop (j + 1))) w2 c3 s3) := HB2.out
      clear HB2 t0 t1 t2
      go_wp2
      go_roundg (gk - 1)
      case measure => omega
      case rel => exact ⟨j + 1, c3, s3, by omega, by go_num, HB3.out, HK2.out⟩
    | false =>
      have HB3 : Hid (BS d R (fun b => R b ∨ p ≤ b ∧ b ≤ q) w a me wk p L N u (tSettle n) w2 c3 s3) := HB2.out
      have HD := Lib.hid (settle_touch (me := me) (n := n) HB3.out.lv)
      clear HB2 HK2
      go_wp2_with fail
      refine HD.out.mono ?_
      clear HD t0 t1 t2
      intro e w4 hP
      have hP2 := HB3.out.last hP
      cases hr : run (tSettle n) c3 s3 with
      | wait zs st s' =>
        rw [hr] at hP
        obtain ⟨-, rfl, -⟩ := hP
        exact ⟨rfl, hP2⟩
      | ret z c' s' =>
        rw [hr] at hP
        obtain ⟨-, rfl, -⟩ := hP
        have HE := Lib.hid hP2
        clear hP2 hr
        go_wp2
        go_ret
        exact HE.out
end
end Go.Proofs.YtcegianjpifnbaaGreat
