/-
  Seek's touch; which way a key goes, of any keys.
-/
import Derived.Test.YtcegianjpifnbaaGreatLs10
import Derived.Lib.Hide
namespace Go.Proofs.YtcegianjpifnbaaGreat
open Go.ChangeShapes Go.WideShapes Go.ChangeAt Go.RowKit
set_option linter.unusedVariables false
set_option linter.unusedSimpArgs false
set_option maxRecDepth 20000

section
variable {d : Wd} {FW R : Nat → Prop} {w w' : World} {s : Sig} {B C D E a me i : Nat} {n r o k : Int}
theorem sway1_walk (h : WS d FW w s) (hf : Fit s) (hB : Tk w B a d.W me) (hC : w.cell? ⟨C, 0, none⟩ = some (.int .i64 r)) (hD : w.cell? ⟨D, 0, none⟩ = some (.int .i64 k)) :
    Calls Tryz.prog 71 #[ptr B, ptr C, ptr D] w fun e w' => e = .returned (intV (gWay r k s).1) ∧ NxW d FW w (gWay r k s).2 w' := by
  have h0 := hB.c1
  have h2 := h.cells.1
  have HS := Lib.hid (nxW_wayG (drew_W h) hf.ok r k)
  have hC0 : w.drew.cell? ⟨B, 1, none⟩ = some (ptr d.W) ∧ w.drew.cell? ⟨C, 0, none⟩ = some (.int .i64 r) ∧ w.drew.cell? ⟨D, 0, none⟩ = some (.int .i64 k) ∧ w.drew.cell? ⟨d.W, 0, none⟩ = some (ptr d.A) := ⟨h0, hC, hD, h2⟩
  clear hB h h0 h2 hC hD
  go_enter Tryz.func71, Tryz.ntmps71
  go_wp2_with fail
  refine region_T (fun k => Nat.ble 7 k) (fun w' => w'.cell? ⟨B, 1, none⟩ = some (ptr d.W) ∧ w'.cell? ⟨C, 0, none⟩ = some (.int .i64 r) ∧ w'.cell? ⟨D, 0, none⟩ = some (.int .i64 k) ∧ w'.cell? ⟨d.W, 0, none⟩ = some (ptr d.A)) (by kernel_rfl) ?_
  have hC := hC0
  refine takeX 0 4 (v := ?_) rfl rfl (by kernel_rfl) (by kernel_rfl) (by kernel_rfl) (by kernel_rfl) (by kernel_rfl) (fun _ _ _ _ h => h) hC (by rfl) ?_ ?_
  rotate_left
  · intro w hSw; (try dsimp only at hSw); go_simp; try (with_reducible rfl)
  simp only [List.setIfInBounds_toArray, List.set_cons_zero, List.set_cons_succ]
  refine takeX 1 5 (v := ?_) rfl rfl (by kernel_rfl) (by kernel_rfl) (by kernel_rfl) (by kernel_rfl) (by kernel_rfl) (fun _ _ _ _ h => h) hC (by rfl) ?_ ?_
  rotate_left
  · intro w hSw; (try dsimp only at hSw); go_simp; try (with_reducible rfl)
  simp only [List.setIfInBounds_toArray, List.set_cons_zero, List.set_cons_succ]
  refine takeX 2 6 (v := ?_) rfl rfl (by kernel_rfl) (by kernel_rfl) (by kernel_rfl) (by kernel_rfl) (by kernel_rfl) (fun _ _ _ _ h => h) hC (by rfl) ?_ ?_
  rotate_left
  · intro w hSw; (try dsimp only at hSw); go_simp; try (with_reducible rfl)
  simp only [List.setIfInBounds_toArray, List.set_cons_zero, List.set_cons_succ]
  refine takeX 3 7 (v := ?_) rfl rfl (by kernel_rfl) (by kernel_rfl) (by kernel_rfl) (by kernel_rfl) (by kernel_rfl) (fun _ _ _ _ h => h) hC (by rfl) ?_ ?_
  rotate_left
  · intro w hSw; (try dsimp only at hSw); go_simp; try (with_reducible rfl)
  simp only [List.setIfInBounds_toArray, List.set_cons_zero, List.set_cons_succ]
  refine takeX 4 8 (v := ?_) rfl rfl (by kernel_rfl) (by kernel_rfl) (by kernel_rfl) (by kernel_rfl) (by kernel_rfl) (fun _ _ _ _ h => h) hC (by rfl) ?_ ?_
  rotate_left
  · intro w hSw; (try dsimp only at hSw); go_simp; try (with_reducible rfl)
  simp only [List.setIfInBounds_toArray, List.set_cons_zero, List.set_cons_succ]
  refine takeX 5 9 (v := ?_) rfl rfl (by kernel_rfl) (by kernel_rfl) (by kernel_rfl) (by kernel_rfl) (by kernel_rfl) (fun _ _ _ _ h => h) hC (by rfl) ?_ ?_
  rotate_left
  · intro w hSw; (try dsimp only at hSw); go_simp; try (with_reducible rfl)
  simp only [List.setIfInBounds_toArray, List.set_cons_zero, List.set_cons_succ]
  refine takeX 6 10 (v := ?_) rfl rfl (by kernel_rfl) (by kernel_rfl) (by kernel_rfl) (by kernel_rfl) (by kernel_rfl) (fun _ _ _ _ h => h) hC (by rfl) ?_ ?_
  rotate_left
  · intro w hSw; (try dsimp only at hSw); go_simp; try (with_reducible rfl)
  simp only [List.setIfInBounds_toArray, List.set_cons_zero, List.set_cons_succ]
  refine oneT (i := 7) (by kernel_rfl) rfl (by rfl) (fun K hK => ?_)
  go_simp
  refine HS.out.mono ?_
  rintro e w' ⟨rfl, hn⟩
  refine hK.out _ _ (fun h => absurd h (by decide)) ?_
  clear hK K hC hC0 HS
  have HN := Lib.hid (gone_drew hn)
  clear hn
  try simp only [Act.put, List.setIfInBounds_toArray, List.set_cons_zero, List.set_cons_succ]
  refine oneT (i := 8) (by kernel_rfl) rfl (by rfl) (fun K hK => ?_)
  go_simp
  refine hK.out _ _ (fun h => absurd h (by decide)) ?_
  clear hK K
  try simp only [Act.put, List.setIfInBounds_toArray, List.set_cons_zero, List.set_cons_succ]
  refine doneT (by kernel_rfl) ?_
  go_wp2
  go_ret
  exact ⟨rfl, HN.out⟩
end
section
variable {d : Wd} {R R' : Nat → Prop} {w w' w0 : World} {a st ph k me : Nat} {wk : Value} {zs : List Int} {c : Cur} {s : Sig} {n r i : Int}
theorem sway_touch (hWI : WaysIn s) (h : Lv d R w a wk c s) :
    Calls Tryz.prog 60 #[tkV a d.W me, .int .i64 r, .int .i64 i] w (Post d R w a wk intV (run (tDo (gWay r i)) c s)) := by
  have e3 := mk_fn
  obtain ⟨W, p, q, q2, hW, hp, hq, hq2, bb, tk, v1, v2, hsz⟩ := three_boxes w a d.W me (.int .i64 r) (.int .i64 i) 53 3
  have h1 : Lv d (fun b => R b ∨ b = p ∨ b = q ∨ b = q2) W a wk c s := h.more bb (fun b e => e.imp id fun e => by omega)
  have HD := Lib.hid (do_touch (f := 71) (cap := #[ptr p, ptr q, ptr q2]) (g := gWay r i) (fun W => rfl) h1 (fun _ => way_in hWI r i) (by
    intro hl w1 FW hWS hR hsz
    exact sway1_walk hWS (h.fit hl) (tk.cells (hR _ (.inr (.inl rfl))).1) (cell_same (hR _ (.inr (.inr (.inl rfl)))).1 v1) (cell_same (hR _ (.inr (.inr (.inr rfl)))).1 v2)))
  have HK := Lib.hid (Kp.new h bb)
  obtain ⟨t0, t1, t2⟩ := tk
  clear h bb v1 v2 h1 hsz
  generalize run (tDo (gWay r i)) c s = o at HD ⊢
  go_enter Tryz.func60, Tryz.ntmps60
  go_wp2_with fail
  refine HD.out.mono ?_
  clear HD
  rintro e w1 hP
  have hP2 := Post.from_ HK.out (hP.mono fun b e => .inl e)
  cases o with
  | wait zs st s' =>
    obtain ⟨k1, rfl, k2⟩ := hP2
    exact ⟨rfl, k1, rfl, k2⟩
  | ret z c' s' =>
    obtain ⟨k1, rfl, k2⟩ := hP
    have HE := Lib.hid hP2
    clear k1 k2 hP2 t0 t1 t2
    go_wp2
    go_ret
    exact HE.out
end
/-- 'ks[i] > x', as the closure asks it. -/
def gtB (ks : List Int) (x : Int) (i : Nat) : Bool := decide (x < ks.getD i 0)

set_option maxHeartbeats 400000 in
theorem inWay1_walk (A : Option Addr) (n c : Nat) (ks : List Int) (x : Int) (g1 g2 : Nat) (i : Nat) (w : World) (h : Sl w A n c ks) (hi : i < n) (hn : n ≤ 100000)
    (h1 : w.cell? ⟨g1, 0, none⟩ = some (.slice A n c)) (h2 : w.cell? ⟨g2, 0, none⟩ = some (.int .i64 x)) :
    Calls Tryz.prog 78 #[.int .i64 (i : Int), .pointer (some ⟨g1, 0, none⟩), .pointer (some ⟨g2, 0, none⟩)] w fun e w' => e = .returned (.bool (gtB ks x i)) ∧ ∃ q, w' = w.drewN q := by
  obtain ⟨b, off, rfl, hbl, c1⟩ := h.at0 hi
  have hk0 : (0 : Int) ≤ (i : Int) := by omega
  have hk1 : (i : Int) < (n : Int) := by omega
  have HG : Hid (gtB ks x i = decide (x < ks.getD i 0)) := rfl
  clear h
  generalize ks.getD i 0 = p at *
  go_enter Tryz.func78, Tryz.ntmps78
  go_wp2
  go_quiet (fail)
  go_wp2
  go_ret
  exact ⟨ret_bool HG.out.symm, _, rfl⟩

/-- What a search by halves ends at, whatever the keys. -/
def Spot (ks : List Int) (x : Int) (r : Nat) : Prop := r ≤ ks.length ∧ (r < ks.length → gtB ks x r = true) ∧ (0 < r → gtB ks x (r - 1) = false)

set_option maxHeartbeats 1000000 in
theorem inSearch_walk (A : Option Addr) (n c : Nat) (ks : List Int) (x : Int) (g1 g2 : Nat) (w : World) (h : Sl w A n c ks) (hn : n ≤ 100000)
    (h1 : w.cell? ⟨g1, 0, none⟩ = some (.slice A n c)) (h2 : w.cell? ⟨g2, 0, none⟩ = some (.int .i64 x)) :
    Calls Tryz.prog 77 #[.int .i64 (n : Int), .func (.func 78) #[] #[.pointer (some ⟨g1, 0, none⟩), .pointer (some ⟨g2, 0, none⟩)]] w fun e w' => ∃ r : Nat, e = .returned (.int .i64 (r : Int)) ∧ Spot ks x r ∧ ∃ q, w' = w.drewN q := by
  have HL := Lib.hid h.len
  go_enter Tryz.func77, Tryz.ntmps77
  go_wp2
  go_loopw [5, 6] (fun i j wr => ∃ a b q : Nat, a ≤ b ∧ b ≤ n ∧ i = .int .i64 (a : Int) ∧ j = .int .i64 (b : Int) ∧ wr = w.drewN q ∧ Hid ((b < n → gtB ks x b = true) ∧ (0 < a → gtB ks x (a - 1) = false))) (fun i j _ => (intOf j).toNat - (intOf i).toNat)
  case atStart => exact ⟨0, n, 0, Nat.zero_le _, Nat.le_refl _, rfl, rfl, rfl, fun h => absurd h (by omega), fun h => absurd h (by omega)⟩
  case round =>
    obtain ⟨a, b, q, h4, h5, rfl, rfl, rfl, hI⟩ := hrel
    by_cases hlt : a < b
    · have hlt' : (a : Int) < (b : Int) := by omega
      have hd : (n : Int) ≤ 100000 := by omega
      go_wp2_with fail
      rw [show ((a : Int) + (b : Int)) / 2 = (((a + b) / 2 : Nat) : Int) from by omega]
      refine (inWay1_walk A n c ks x g1 g2 ((a + b) / 2) (w.drewN q) (h.drewN q) (by omega) hn h1 h2).mono ?_
      rintro e w1 ⟨rfl, q', rfl⟩
      have hm : (a + b) / 2 < b := by omega
      have hm' : a ≤ (a + b) / 2 := by omega
      generalize (a + b) / 2 = mm at *
      cases hg : gtB ks x mm with
      | true =>
        have HG := Lib.hid hg
        clear hg
        go_wp2
        go_roundw
        case rel => exact ⟨a, mm, q + q', hm', by omega, rfl, rfl, by simp, fun _ => HG.out, hI.out.2⟩
        case measure => simp [intOf]; omega
      | false =>
        have HG := Lib.hid hg
        clear hg
        go_wp2
        go_roundw
        case rel => exact ⟨mm + 1, b, q + q', by omega, h5, by go_num, rfl, by simp, hI.out.1, fun _ => HG.out⟩
        case measure => simp [intOf]; omega
    · have hlt' : (b : Int) ≤ (a : Int) := by omega
      obtain rfl : a = b := by omega
      go_wp2
      go_ret
      exact ⟨a, rfl, ⟨by rw [← HL.out]; exact h5, by rw [← HL.out]; exact hI.out.1, hI.out.2⟩, _, rfl⟩

/-- The way, held within the ways. -/
def heldW (r m : Nat) : Nat := min r (m - 1)

set_option maxHeartbeats 1000000 in
theorem inWay_walk (A B : Option Addr) (n c m d : Nat) (ks : List Int) (x : Int) (w : World) (h : Sl w A n c ks) (hn : n ≤ 100000) (hm : m ≤ 100000) :
    Calls Tryz.prog 69 #[inn A n c B m d, .int .i64 x] w fun e w' => ∃ r : Nat, e = .returned (.int .i64 (heldW r m : Nat)) ∧ Spot ks x r ∧ Below w.heap.size w w' := by
  go_enter Tryz.func69, Tryz.ntmps69
  go_wp2_with fail
  refine (inSearch_walk A n c ks x w.heap.size (w.heap.size + 1) _ ((h.alloc _).alloc _) hn (by simp) (by simp)).mono ?_
  rintro e w1 ⟨r, rfl, hs, q, rfl⟩
  have hb : Below w.heap.size w ((w.alloc (.cells #[.slice A n c, .slice B m d] 27)).alloc (.cells #[.int .i64 x] 2)) := ((Below.refl _ _).alloc (Nat.le_refl _) _).alloc (by simp) _
  have HS := Lib.hid hs
  clear hs
  go_wp2
  all_goals go_ret
  all_goals refine ⟨r, ret_int ?_, HS.out, below_drewN hb _⟩
  all_goals unfold heldW
  all_goals (first | omega | (split <;> omega) | (split <;> split <;> omega))

def wayL (ks : List Int) (x : Int) : Nat := (ks.filter fun k => decide (k ≤ x)).length
theorem wayL_snoc (l : List Int) (z x : Int) : wayL (l ++ [z]) x = wayL l x + if z ≤ x then 1 else 0 := by
  unfold wayL; rw [List.filter_append]; by_cases h : z ≤ x <;> simp [h]
theorem wayL_le (l : List Int) (x : Int) : wayL l x ≤ l.length := List.length_filter_le _ _

def Asc1 (ks : List Int) : Prop := ks.Pairwise fun a b => a < b
theorem wayL_append (a b : List Int) (x : Int) : wayL (a ++ b) x = wayL a x + wayL b x := by unfold wayL; rw [List.filter_append, List.length_append]
theorem wayL_all {l : List Int} {x : Int} (h : ∀ z ∈ l, z ≤ x) : wayL l x = l.length := by
  unfold wayL; rw [List.filter_eq_self.2 (by simpa using h)]
theorem wayL_none {l : List Int} {x : Int} (h : ∀ z ∈ l, x < z) : wayL l x = 0 := by
  unfold wayL; rw [List.filter_eq_nil_iff.2 (by intro z hz; have := h z hz; simp; omega)]; rfl

theorem asc1_at {ks : List Int} (ha : Asc1 ks) {i j : Nat} (hij : i < j) (hj : j < ks.length) : ks[i]'(by omega) < ks[j] := List.pairwise_iff_getElem.1 ha i j (by omega) hj hij

/-- Of keys that rise those that aren't above x come first. -/
theorem way_split {ks : List Int} (ha : Asc1 ks) (x : Int) : (∀ i (h : i < ks.length), i < wayL ks x → ks[i] ≤ x) ∧ (∀ i (h : i < ks.length), wayL ks x ≤ i → x < ks[i]) := by
  induction ks with
  | nil => exact ⟨fun i h => absurd h (by simp), fun i h => absurd h (by simp)⟩
  | cons k ks ih =>
    have ht : Asc1 ks := (List.pairwise_cons.1 ha).2
    have hh : ∀ z ∈ ks, k < z := (List.pairwise_cons.1 ha).1
    obtain ⟨h1, h2⟩ := ih ht
    by_cases hk : k ≤ x
    · have e : wayL (k :: ks) x = wayL ks x + 1 := by unfold wayL; simp [hk]
      rw [e]
      refine ⟨fun i h hi => ?_, fun i h hi => ?_⟩
      · cases i with
        | zero => simpa using hk
        | succ i => simpa using h1 i (by simpa using h) (by omega)
      · cases i with
        | zero => omega
        | succ i => simpa using h2 i (by simpa using h) (by omega)
    · have hgt : ∀ z ∈ ks, x < z := fun z hz => by have := hh z hz; omega
      have e : wayL (k :: ks) x = 0 := wayL_none (by intro z hz; simp at hz; rcases hz with rfl | hz; (· omega); (· exact hgt z hz))
      rw [e]
      refine ⟨fun i h hi => absurd hi (by omega), fun i h _ => ?_⟩
      cases i with
      | zero => simpa using (show x < k by omega)
      | succ i => simpa using hgt _ (List.getElem_mem (by simpa using h))


theorem spot_way {ks : List Int} (ha : Asc1 ks) {x : Int} {r : Nat} (h : Spot ks x r) : r = wayL ks x := by
  obtain ⟨h0, h1, h2⟩ := h
  obtain ⟨w1, w2⟩ := way_split ha x
  have hw := wayL_le ks x
  rcases Nat.lt_trichotomy r (wayL ks x) with hlt | heq | hgt
  · have hr : r < ks.length := by omega
    have a1 := h1 hr
    have a2 := w1 r hr hlt
    simp [gtB, List.getD, hr] at a1
    omega
  · exact heq
  · have hr : r - 1 < ks.length := by omega
    have a1 := h2 (by omega)
    have a2 := w2 (r - 1) hr (by omega)
    simp [gtB, List.getD, hr] at a1
    omega


end Go.Proofs.YtcegianjpifnbaaGreat
