/-
  What record's Make returns where it makes a record, and what the table is behind it.
-/
import Derived.Test.YtokheagoddmmiaaPush5
namespace Go.Proofs.Ytokheagoddmmiaa
open Go.ChangeShapes Go.WideShapes Go.ChangeAt Go.RowKit
set_option linter.unusedVariables false
set_option linter.unusedSimpArgs false
set_option maxRecDepth 20000

section
variable {F G : Nat → Prop} {w w' : World} {a mo i : Nat} {l : List It} {P : Value}
/-- Behind a call that makes a record: the table, and nothing else has changed. -/
def MadeT (F : Nat → Prop) (w : World) (a mo : Nat) (l : List It) (r : Rc) (w' : World) : Prop :=
  ∃ F' P' u v, Tb F' w' a mo (l ++ [⟨r, 1, false, u, v⟩]) P' ∧ Only F w w' ∧ ∀ b, F' b → F b ∨ w.heap.size ≤ b

set_option maxHeartbeats 4000000 in
theorem make_yes (h : Tb F w a mo l P) (A B : Option Addr) (n c d : Nat) (r : Rc) (hr : Sl w A n c r.ns) (hk : Sl w B n d r.is) (hkp : 0 ≤ r.kp) (hroom : l.length < mo) (hmo : mo ≤ 65536) (hn : n ≤ 20) :
    Calls Try.prog 12 #[ptr a, rcv (.slice A n c) (.slice B n d) r] w fun e w' => e = .returned (.tuple #[.int .i64 ((l.length : Int) + 1), .bool true]) ∧ MadeT F w a mo l r w' := by
  obtain ⟨ns, is, kp, wy, od, nw⟩ := r
  simp only at hr hk hkp
  obtain ⟨W, hW, hb, h6⟩ : ∃ W : World, w.alloc (.cells #[.slice A n c, .slice B n d, .int .i64 kp, .int .i64 wy, .int .i64 od, .int .i64 nw] 32) = W ∧ Below w.heap.size w W ∧ Six W w.heap.size (.slice A n c) (.slice B n d) kp wy od nw := ⟨_, rfl, below_new _ _, Six.new w rfl _ _ _ _ _ _⟩
  have HLN := Lib.hid hr.len
  have HLK := Lib.hid hk.len
  have HT := Lib.hid (h.below hb)
  obtain ⟨c0, c1, -⟩ := (h.below hb).cells
  obtain ⟨A', c', rfl, -, -⟩ := h.its.form
  obtain ⟨d0, d1, d2, d3, d4, d5⟩ := h6.cells
  have Hr := Lib.hid (hr.below hb)
  have Hk := Lib.hid (hk.below hb)
  have HB := Lib.hid hb
  have HNF : Hid (¬ F w.heap.size) := fun e => Nat.lt_irrefl _ (h.its.lt _ e)
  clear hb h h6 hr hk
  generalize hL : l.length = L at *
  have HL := Lib.hid hL
  generalize hR : w.heap.size = R at *
  have HR := Lib.hid hR
  have h2 : ¬ (kp < 0) := by omega
  have h3 : ¬ ((mo : Int) ≤ (L : Int)) := by omega
  clear hL
  have HC : Hid (∀ w', Below W.heap.size W w' → (w'.cell? ⟨a, 1, none⟩ = some (.slice A' L c') ∧ w'.cell? ⟨R, 0, none⟩ = some (.slice A n c) ∧ w'.cell? ⟨R, 1, none⟩ = some (.slice B n d) ∧ w'.cell? ⟨R, 2, none⟩ = some (.int .i64 kp) ∧ w'.cell? ⟨R, 3, none⟩ = some (.int .i64 wy) ∧ w'.cell? ⟨R, 4, none⟩ = some (.int .i64 od) ∧ w'.cell? ⟨R, 5, none⟩ = some (.int .i64 nw))) := fun w' h => ⟨below_read h c1, below_read h d0, below_read h d1, below_read h d2, below_read h d3, below_read h d4, below_read h d5⟩
  go_enter Try.func12, Try.ntmps12
  go_wp2
  (try rw [hW])
  go_quiet (fail)
  go_wp2_with fail
  clear hW hR
  refine region_T (fun j => j == 12) (fun w' => w'.cell? ⟨a, 1, none⟩ = some (.slice A' L c') ∧ w'.cell? ⟨R, 0, none⟩ = some (.slice A n c) ∧ w'.cell? ⟨R, 1, none⟩ = some (.slice B n d) ∧ w'.cell? ⟨R, 2, none⟩ = some (.int .i64 kp) ∧ w'.cell? ⟨R, 3, none⟩ = some (.int .i64 wy) ∧ w'.cell? ⟨R, 4, none⟩ = some (.int .i64 od) ∧ w'.cell? ⟨R, 5, none⟩ = some (.int .i64 nw)) (by kernel_rfl) ?_
  obtain ⟨X0, hX0, hbX0⟩ : ∃ X0 : World, (W.drewN nq).drew = X0 ∧ Below W.heap.size W X0 := ⟨_, rfl, (below_drewN (Below.refl _ W) _).drew⟩
  rw [hX0]
  clear hX0
  have hC := HC.out X0 hbX0
  refine takeT (i := 0) (v := ?_) rfl (by kernel_rfl) (by kernel_rfl) (by kernel_rfl) (by kernel_rfl) (fun _ _ _ h => h) hC (by rfl) ?_ ?_
  rotate_left
  · intro w hSw; (try dsimp only at hSw); go_simp; try (with_reducible rfl)
  try simp only [Act.put, List.setIfInBounds_toArray, List.set_cons_zero, List.set_cons_succ]
  refine takeT (i := 1) (v := ?_) rfl (by kernel_rfl) (by kernel_rfl) (by kernel_rfl) (by kernel_rfl) (fun _ _ _ h => h) hC (by rfl) ?_ ?_
  rotate_left
  · intro w hSw; (try dsimp only at hSw); go_simp; try (with_reducible rfl)
  try simp only [Act.put, List.setIfInBounds_toArray, List.set_cons_zero, List.set_cons_succ]
  refine takeT (i := 2) (v := ?_) rfl (by kernel_rfl) (by kernel_rfl) (by kernel_rfl) (by kernel_rfl) (fun _ _ _ h => h) hC (by rfl) ?_ ?_
  rotate_left
  · intro w hSw; (try dsimp only at hSw); go_simp; try (with_reducible rfl)
  try simp only [Act.put, List.setIfInBounds_toArray, List.set_cons_zero, List.set_cons_succ]
  refine takeT (i := 3) (v := ?_) rfl (by kernel_rfl) (by kernel_rfl) (by kernel_rfl) (by kernel_rfl) (fun _ _ _ h => h) hC (by rfl) ?_ ?_
  rotate_left
  · intro w hSw; (try dsimp only at hSw); go_simp; try (with_reducible rfl)
  try simp only [Act.put, List.setIfInBounds_toArray, List.set_cons_zero, List.set_cons_succ]
  refine takeT (i := 4) (v := ?_) rfl (by kernel_rfl) (by kernel_rfl) (by kernel_rfl) (by kernel_rfl) (fun _ _ _ h => h) hC (by rfl) ?_ ?_
  rotate_left
  · intro w hSw; (try dsimp only at hSw); go_simp; try (with_reducible rfl)
  try simp only [Act.put, List.setIfInBounds_toArray, List.set_cons_zero, List.set_cons_succ]
  refine takeT (i := 5) (v := ?_) rfl (by kernel_rfl) (by kernel_rfl) (by kernel_rfl) (by kernel_rfl) (fun _ _ _ h => h) hC (by rfl) ?_ ?_
  rotate_left
  · intro w hSw; (try dsimp only at hSw); go_simp; try (with_reducible rfl)
  try simp only [Act.put, List.setIfInBounds_toArray, List.set_cons_zero, List.set_cons_succ]
  refine oneT (i := 6) (by kernel_rfl) rfl (by rfl) (fun K hK => ?_)
  go_simp
  refine (same_walk A B n c n d ⟨ns, is, kp, wy, od, nw⟩ X0 (Hr.out.below hbX0) (Hk.out.below hbX0) (by simp only; have := HLN.out; omega) (by simp only; have := HLK.out; omega)).mono ?_
  rintro e X1 ⟨u, v, rfl, r1, k1, hst⟩
  obtain ⟨A3, n3, d3', rfl⟩ := r1.shape
  obtain ⟨A4, n4, d4', rfl⟩ := k1.shape
  have hbX1 := hbX0.trans (hst.mono hbX0.size)
  replace r1 := r1.lower (base' := W.heap.size) hbX0.size
  replace k1 := k1.lower (base' := W.heap.size) hbX0.size
  refine hK.out _ _ (fun _ => HC.out X1 hbX1) ?_
  clear hK K hst hC
  try simp only [Act.put, List.setIfInBounds_toArray, List.set_cons_zero, List.set_cons_succ]
  have hC := HC.out X1 hbX1
  refine takeT (i := 7) (v := ?_) rfl (by kernel_rfl) (by kernel_rfl) (by kernel_rfl) (by kernel_rfl) (fun _ _ _ h => h) hC (by rfl) ?_ ?_
  rotate_left
  · intro w hSw; (try dsimp only at hSw); go_simp; try (with_reducible rfl)
  try simp only [Act.put, List.setIfInBounds_toArray, List.set_cons_zero, List.set_cons_succ]
  refine oneT (i := 8) (by kernel_rfl) rfl (by rfl) (fun K hK => ?_)
  go_simp
  obtain ⟨X2, s, hX, hs, hst, hblk⟩ : ∃ (X2 : World) (s : Nat), X1.alloc (.cells #[.slice A3 n3 d3', .slice A4 n4 d4', .int .i64 kp, .int .i64 wy, .int .i64 od, .int .i64 nw, .int .u8 1, .bool false] itT) = X2 ∧ X1.heap.size = s ∧ Below X1.heap.size X1 X2 ∧ X2.heap[s]? = some (.cells #[.slice A3 n3 d3', .slice A4 n4 d4', .int .i64 kp, .int .i64 wy, .int .i64 od, .int .i64 nw, .int .u8 1, .bool false] itT (0, 0)) := ⟨_, _, rfl, rfl, below_new _ _, h_new rfl⟩
  (try rw [hX]); (try rw [hs])
  clear hX hs
  have hbX2 := hbX1.trans (hst.mono hbX1.size)
  replace r1 := r1.next hst
  replace k1 := k1.next hst
  refine hK.out _ _ (fun _ => HC.out X2 hbX2) ?_
  clear hK K hst hC
  try simp only [Act.put, List.setIfInBounds_toArray, List.set_cons_zero, List.set_cons_succ]
  have hC := HC.out X2 hbX2
  obtain ⟨P2, Y, F', hrun, ⟨A5, c5, rfl⟩, y1, z1, hT2, hO2, hF2, hkp2⟩ := HT.out.pushed (x := ⟨⟨ns, is, kp, wy, od, nw⟩, 1, false, .slice A3 n3 d3', .slice A4 n4 d4'⟩) hbX2 r1 k1 ⟨by simp only; have := HLN.out; omega, by simp only; have := HLK.out; omega⟩ (by have := HL.out; omega) s (cells_blk hblk)
  have HT2 : Hid (MadeT F w a mo l ⟨ns, is, kp, wy, od, nw⟩ (Y.setCell ⟨a, 1, none⟩ (.slice A5 (l.length + 1) c5))) := ⟨F', _, _, _, hT2, (Only.of_below F (by have := HR.out; subst this; exact HB.out)).then hO2, fun b e => (hF2 b e).imp id fun e => by have h1 := HB.out.size; have h2 := HR.out; omega⟩
  have q1 : (Y.setCell ⟨a, 1, none⟩ (.slice A5 (l.length + 1) c5)).cell? ⟨a, 1, none⟩ = some (.slice A5 (l.length + 1) c5) := hT2.cells.2.1
  rw [HL.out] at HT2 hrun q1
  clear hT2 hO2 hF2
  refine oneT (i := 9) (by kernel_rfl) rfl (by rfl) (fun K hK => ?_)
  refine Lib.wp_append_run _ (.tmp 38) (.tmp 42) _ _ rfl _ _ rfl rfl _ _ (hrun _) ?_
  obtain ⟨-, g0, g1, g2, g3, g4, g5⟩ := hC
  have hCY : Y.cell? ⟨a, 1, none⟩ = some (.slice A' L c') ∧ Y.cell? ⟨R, 0, none⟩ = some (.slice A n c) ∧ Y.cell? ⟨R, 1, none⟩ = some (.slice B n d) ∧ Y.cell? ⟨R, 2, none⟩ = some (.int .i64 kp) ∧ Y.cell? ⟨R, 3, none⟩ = some (.int .i64 wy) ∧ Y.cell? ⟨R, 4, none⟩ = some (.int .i64 od) ∧ Y.cell? ⟨R, 5, none⟩ = some (.int .i64 nw) := ⟨y1, hkp2 _ _ g0 HNF.out, hkp2 _ _ g1 HNF.out, hkp2 _ _ g2 HNF.out, hkp2 _ _ g3 HNF.out, hkp2 _ _ g4 HNF.out, hkp2 _ _ g5 HNF.out⟩
  clear g0 g1 g2 g3 g4 g5 hkp2
  refine hK.out _ _ (fun _ => hCY) ?_
  clear hK K
  try simp only [Act.put, List.setIfInBounds_toArray, List.set_cons_zero, List.set_cons_succ]
  refine oneT (i := 10) (by kernel_rfl) rfl (by rfl) (fun K hK => ?_)
  go_simp
  refine hK.out _ _ (fun _ => hCY) ?_
  clear hK K
  try simp only [Act.put, List.setIfInBounds_toArray, List.set_cons_zero, List.set_cons_succ]
  refine oneT (i := 11) (by kernel_rfl) rfl (by rfl) (fun K hK => ?_)
  go_simp
  refine hK.out _ _ (fun _ => hCY) ?_
  clear hK K
  try simp only [Act.put, List.setIfInBounds_toArray, List.set_cons_zero, List.set_cons_succ]
  clear hCY
  refine oneT (i := 12) (by kernel_rfl) rfl (by rfl) (fun K hK => ?_)
  go_simp
  refine hK.out _ _ (fun h => absurd h (by decide)) ?_
  clear hK K
  refine doneT (by kernel_rfl) ?_
  generalize hZ : Y.setCell ⟨a, 1, none⟩ (.slice A5 (L + 1) c5) = Z at *
  clear hZ y1 z1 c0 c1 d0 d1 d2 d3 d4 d5 hrun r1 k1 hbX0 hbX1 hbX2 hblk HC Hr Hk HT HB
  go_wp2
  go_ret2
  exact ⟨by first | rfl | (simp), HT2.out⟩
end
end Go.Proofs.Ytokheagoddmmiaa
