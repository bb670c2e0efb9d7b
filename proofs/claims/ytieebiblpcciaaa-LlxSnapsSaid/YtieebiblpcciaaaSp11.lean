/-
  Law LlxSnaps: what a snap tells of keys, ways, entries, whichever it is.
-/
import Derived.Test.YtieebiblpcciaaaAw10
namespace Go.Proofs.Ytieebiblpcciaaa
open Go.ChangeShapes Go.WideShapes Go.ChangeAt Go.RowKit
set_option linter.unusedVariables false
set_option linter.unusedSimpArgs false
set_option maxRecDepth 20000

abbrev inT : TypeId := 71
theorem snap_boxes (w : World) (rf inf : Int) (x y : Bool) (pv kv zv wv : Value) : ∃ (W : World) (p q : Nat), (w.alloc (.cells #[.int .i64 rf, .int .i64 inf, .bool x, .bool y, pv, kv, zv, wv] snT)).alloc (.cells #[.slice none 0 0, .slice none 0 0] inT) = W ∧ w.heap.size = p ∧ p + 1 = q ∧ Below w.heap.size w W ∧ Eig W p rf inf x y pv kv zv wv ∧ Var W q ∧ p < W.heap.size ∧ q < W.heap.size ∧ p ≠ q ∧ q ≠ p :=
  ⟨_, _, _, rfl, rfl, rfl, ((Below.refl _ w).alloc (Nat.le_refl _) _).alloc (by simp) _, (Eig.new w rfl rf inf x y pv kv zv wv).below (below_new _ _), Var.new _ (by simp) _, by simp; omega, by simp, by omega, by omega⟩
theorem snap_box (w : World) (rf inf : Int) (x y : Bool) (pv kv zv wv : Value) : ∃ (W : World) (p : Nat), (w.alloc (.cells #[.int .i64 rf, .int .i64 inf, .bool x, .bool y, pv, kv, zv, wv] snT)) = W ∧ w.heap.size = p ∧ Below w.heap.size w W ∧ Eig W p rf inf x y pv kv zv wv :=
  ⟨_, _, rfl, rfl, below_new _ _, Eig.new w rfl rf inf x y pv kv zv wv⟩
section
variable {rf inf : Int} {x y : Bool} {pv zv : Value} {P B C : Option Addr} {n1 c1 m c p q : Nat} {ks ws : List Int} {w : World}
set_option maxHeartbeats 4000000 in
theorem snapInner_walk (hk : Sl w B m c ks) (hz : Sl w C p q ws) (hm : m ≤ 1000) (hp : p ≤ 1000) :
    Calls Try.prog 38 #[snv rf inf x y pv (.slice B m c) zv (.slice C p q)] w (MadeI w ks ws) := by
  have hks : ks.length = m := hk.len.symm
  have hws : ws.length = p := hz.len.symm
  have HKK := Lib.hid hk
  have HZZ := Lib.hid hz
  clear hk hz
  obtain ⟨W, b, R, hW, hb, hR, hb0, e8, hv, hbl, hRl, l1, l2⟩ := snap_boxes w rf inf x y pv (.slice B m c) zv (.slice C p q)
  have HB := Lib.hid hb
  have HBR := Lib.hid hR
  have KK : Hid (Sl W B m c ks) := HKK.out.below hb0
  have KZ : Hid (Sl W C p q ws) := HZZ.out.below hb0
  have HW := Lib.hid hb0
  go_enter Try.func38, Try.ntmps38
  go_wp2_with fail
  (try rw [hW])
  (try rw [hb])
  (try rw [hR])
  clear hW hb hR hb0
  have HE8 := Lib.hid e8
  have HV := Lib.hid hv
  obtain ⟨-, -, -, -, -, d5, -, d7⟩ := e8.cells
  clear e8 hv
  have HC : Hid (∀ w', Below W.heap.size W w' → (w'.cell? ⟨b, 5, none⟩ = some (.slice B m c) ∧ w'.cell? ⟨b, 7, none⟩ = some (.slice C p q))) := fun w' h => ⟨below_read h d5, below_read h d7⟩
  refine region_T (fun k => k == 11) (fun w' => w'.cell? ⟨b, 5, none⟩ = some (.slice B m c) ∧ w'.cell? ⟨b, 7, none⟩ = some (.slice C p q)) (by kernel_rfl) ?_
  obtain ⟨X0, hX0, hbX0⟩ : ∃ X0 : World, W.drew = X0 ∧ Below W.heap.size W X0 := ⟨_, rfl, (Below.refl _ W).drew⟩
  rw [hX0]
  clear hX0
  have hC := HC.out X0 hbX0
  refine takeT (i := 0) (v := ?_) rfl (by kernel_rfl) (by kernel_rfl) (by kernel_rfl) (by kernel_rfl) (fun _ _ _ h => h) hC (by rfl) ?_ ?_
  rotate_left
  · intro w hSw; (try dsimp only at hSw); go_simp; try (with_reducible rfl)
  try simp only [Act.put, List.setIfInBounds_toArray, List.set_cons_zero, List.set_cons_succ]
  refine takeT (i := 1) (v := ?_) rfl (by kernel_rfl) (by kernel_rfl) (by kernel_rfl) (by kernel_rfl) (fun _ _ _ h => h) hC (by rfl) ?_ ?_
  rotate_left
  · intro w hSw; (try dsimp only at hSw); go_simp; try (with_reducible rfl)
  try simp only [Act.put, List.setIfInBounds_toArray, List.set_cons_zero, List.set_cons_succ]
  refine takeT (i := 2) (v := ?_) rfl (by kernel_rfl) (by kernel_rfl) (by kernel_rfl) (by kernel_rfl) (fun _ _ _ h => h) hC (by rfl) ?_ ?_
  rotate_left
  · intro w hSw; (try dsimp only at hSw); go_simp; try (with_reducible rfl)
  try simp only [Act.put, List.setIfInBounds_toArray, List.set_cons_zero, List.set_cons_succ]
  refine takeT (i := 3) (v := ?_) rfl (by kernel_rfl) (by kernel_rfl) (by kernel_rfl) (by kernel_rfl) (fun _ _ _ h => h) hC (by rfl) ?_ ?_
  rotate_left
  · intro w hSw; (try dsimp only at hSw); go_simp; try (with_reducible rfl)
  try simp only [Act.put, List.setIfInBounds_toArray, List.set_cons_zero, List.set_cons_succ]
  refine takeT (i := 6) (v := ?_) rfl (by kernel_rfl) (by kernel_rfl) (by kernel_rfl) (by kernel_rfl) (fun _ _ _ h => h) hC (by rfl) ?_ ?_
  rotate_left
  · intro w hSw; (try dsimp only at hSw); go_simp; try (with_reducible rfl)
  try simp only [Act.put, List.setIfInBounds_toArray, List.set_cons_zero, List.set_cons_succ]
  refine takeT (i := 7) (v := ?_) rfl (by kernel_rfl) (by kernel_rfl) (by kernel_rfl) (by kernel_rfl) (fun _ _ _ h => h) hC (by rfl) ?_ ?_
  rotate_left
  · intro w hSw; (try dsimp only at hSw); go_simp; try (with_reducible rfl)
  try simp only [Act.put, List.setIfInBounds_toArray, List.set_cons_zero, List.set_cons_succ]
  clear hC
  refine twoT (i := 4) (j := 8) (by kernel_rfl) rfl rfl (by rfl) (by rfl) (fun K hK => ?_) (fun K hK => ?_)
  · go_simp
    obtain ⟨X1, bk, hX, hbk, hst, cbk⟩ := stepB X0 (.slice B m c) 29
    rw [hX, hbk]
    clear hX hbk
    have hbX1 := hbX0.trans (hst.mono hbX0.size)
    refine hK.out _ _ (fun _ => HC.out X1 hbX1) ?_
    clear hK K hst
    try simp only [Act.put, List.setIfInBounds_toArray, List.set_cons_zero, List.set_cons_succ]
    refine twoT (i := 5) (j := 8) (by kernel_rfl) rfl rfl (by rfl) (by rfl) (fun K hK => ?_) (fun K hK => ?_)
    · go_simp
      refine (concatK1 bk B m c ks X1 cbk (KK.out.below hbX1) (by omega)).mono ?_
      rintro e X2 ⟨v2, rfl, g2, hst⟩
      obtain ⟨F2, N2, f2, rfl⟩ := g2.shape
      have rk := g2.lower (base' := W.heap.size) hbX1.size
      clear g2
      have hbX2 := hbX1.trans (hst.mono hbX1.size)
      refine hK.out _ _ (fun _ => HC.out X2 hbX2) ?_
      clear hK K hst
      try simp only [Act.put, List.setIfInBounds_toArray, List.set_cons_zero, List.set_cons_succ]
      refine oneT (i := 8) (by kernel_rfl) rfl (by rfl) (fun K hK => ?_)
      go_simp
      obtain ⟨X3, bz, hX, hbz, hst, cbz⟩ := stepB X2 (.slice C p q) 26
      rw [hX, hbz]
      clear hX hbz
      have hbX3 := hbX2.trans (hst.mono hbX2.size)
      replace rk := rk.next hst
      refine hK.out _ _ (fun _ => HC.out X3 hbX3) ?_
      clear hK K hst
      try simp only [Act.put, List.setIfInBounds_toArray, List.set_cons_zero, List.set_cons_succ]
      refine oneT (i := 9) (by kernel_rfl) rfl (by rfl) (fun K hK => ?_)
      go_simp
      refine (concatR1 bz C p q ws X3 cbz (KZ.out.below hbX3) (by omega)).mono ?_
      rintro e X4 ⟨v3, rfl, g3, hst⟩
      obtain ⟨F3, N3, f3, rfl⟩ := g3.shape
      have rz := g3.lower (base' := W.heap.size) hbX3.size
      clear g3
      have hbX4 := hbX3.trans (hst.mono hbX3.size)
      replace rk := rk.next hst
      refine hK.out _ _ (fun _ => HC.out X4 hbX4) ?_
      clear hK K hst
      try simp only [Act.put, List.setIfInBounds_toArray, List.set_cons_zero, List.set_cons_succ]
      have hC := HC.out X4 hbX4
      refine takeT (i := 10) (v := ?_) rfl (by kernel_rfl) (by kernel_rfl) (by kernel_rfl) (by kernel_rfl) (fun _ _ _ h => h) hC (by rfl) ?_ ?_
      rotate_left
      · intro w hSw; (try dsimp only at hSw); go_simp; try (with_reducible rfl)
      try simp only [Act.put, List.setIfInBounds_toArray, List.set_cons_zero, List.set_cons_succ]
      have mv := HV.out.below hbX4
      obtain ⟨y0, y1, y2, y3⟩ := id mv
      have HE : Hid (MadeI w ks ws (.returned (.agg #[.slice F2 N2 f2, .slice F3 N3 f3])) ((X4.setCell ⟨R, 0, none⟩ (.slice F2 N2 f2)).setCell ⟨R, 1, none⟩ (.slice F3 N3 f3))) := madeI_end1 rk rz HW.out hRl (by have := HB.out; have := HBR.out; omega) (HW.out.trans (hbX4.mono HW.out.size))
      clear hC mv
      refine oneT (i := 11) (by kernel_rfl) rfl (by rfl) (fun K hK => ?_)
      go_simp
      refine hK.out _ _ (fun h => by cases h) ?_
      clear hK K
      refine doneT (by kernel_rfl) ?_
      clear rk rz
      go_wp2
      ((try simp only [Exit.inBlock, Exit.then]); refine bodyPost_ret (results_stored rfl rfl y0 y1) rfl ?_)
      exact HE.out
    · go_simp
      obtain ⟨X2, bz, hX, hbz, hst, cbz⟩ := stepB X1 (.slice C p q) 26
      rw [hX, hbz]
      clear hX hbz
      have hbX2 := hbX1.trans (hst.mono hbX1.size)
      replace cbk := below_read hst cbk
      refine hK.out _ _ (fun _ => HC.out X2 hbX2) ?_
      clear hK K hst
      try simp only [Act.put, List.setIfInBounds_toArray, List.set_cons_zero, List.set_cons_succ]
      refine oneT (i := 5) (by kernel_rfl) rfl (by rfl) (fun K hK => ?_)
      go_simp
      refine (concatK1 bk B m c ks X2 cbk (KK.out.below hbX2) (by omega)).mono ?_
      rintro e X3 ⟨v2, rfl, g2, hst⟩
      obtain ⟨F2, N2, f2, rfl⟩ := g2.shape
      have rk := g2.lower (base' := W.heap.size) hbX2.size
      clear g2
      have hbX3 := hbX2.trans (hst.mono hbX2.size)
      replace cbz := below_read hst cbz
      refine hK.out _ _ (fun _ => HC.out X3 hbX3) ?_
      clear hK K hst
      try simp only [Act.put, List.setIfInBounds_toArray, List.set_cons_zero, List.set_cons_succ]
      refine oneT (i := 9) (by kernel_rfl) rfl (by rfl) (fun K hK => ?_)
      go_simp
      refine (concatR1 bz C p q ws X3 cbz (KZ.out.below hbX3) (by omega)).mono ?_
      rintro e X4 ⟨v3, rfl, g3, hst⟩
      obtain ⟨F3, N3, f3, rfl⟩ := g3.shape
      have rz := g3.lower (base' := W.heap.size) hbX3.size
      clear g3
      have hbX4 := hbX3.trans (hst.mono hbX3.size)
      replace rk := rk.next hst
      refine hK.out _ _ (fun _ => HC.out X4 hbX4) ?_
      clear hK K hst
      try simp only [Act.put, List.setIfInBounds_toArray, List.set_cons_zero, List.set_cons_succ]
      have hC := HC.out X4 hbX4
      refine takeT (i := 10) (v := ?_) rfl (by kernel_rfl) (by kernel_rfl) (by kernel_rfl) (by kernel_rfl) (fun _ _ _ h => h) hC (by rfl) ?_ ?_
      rotate_left
      · intro w hSw; (try dsimp only at hSw); go_simp; try (with_reducible rfl)
      try simp only [Act.put, List.setIfInBounds_toArray, List.set_cons_zero, List.set_cons_succ]
      have mv := HV.out.below hbX4
      obtain ⟨y0, y1, y2, y3⟩ := id mv
      have HE : Hid (MadeI w ks ws (.returned (.agg #[.slice F2 N2 f2, .slice F3 N3 f3])) ((X4.setCell ⟨R, 0, none⟩ (.slice F2 N2 f2)).setCell ⟨R, 1, none⟩ (.slice F3 N3 f3))) := madeI_end1 rk rz HW.out hRl (by have := HB.out; have := HBR.out; omega) (HW.out.trans (hbX4.mono HW.out.size))
      clear hC mv
      refine oneT (i := 11) (by kernel_rfl) rfl (by rfl) (fun K hK => ?_)
      go_simp
      refine hK.out _ _ (fun h => by cases h) ?_
      clear hK K
      refine doneT (by kernel_rfl) ?_
      clear rk rz
      go_wp2
      ((try simp only [Exit.inBlock, Exit.then]); refine bodyPost_ret (results_stored rfl rfl y0 y1) rfl ?_)
      exact HE.out
  · go_simp
    obtain ⟨X1, bz, hX, hbz, hst, cbz⟩ := stepB X0 (.slice C p q) 26
    rw [hX, hbz]
    clear hX hbz
    have hbX1 := hbX0.trans (hst.mono hbX0.size)
    refine hK.out _ _ (fun _ => HC.out X1 hbX1) ?_
    clear hK K hst
    try simp only [Act.put, List.setIfInBounds_toArray, List.set_cons_zero, List.set_cons_succ]
    refine oneT (i := 4) (by kernel_rfl) rfl (by rfl) (fun K hK => ?_)
    go_simp
    obtain ⟨X2, bk, hX, hbk, hst, cbk⟩ := stepB X1 (.slice B m c) 29
    rw [hX, hbk]
    clear hX hbk
    have hbX2 := hbX1.trans (hst.mono hbX1.size)
    replace cbz := below_read hst cbz
    refine hK.out _ _ (fun _ => HC.out X2 hbX2) ?_
    clear hK K hst
    try simp only [Act.put, List.setIfInBounds_toArray, List.set_cons_zero, List.set_cons_succ]
    refine oneT (i := 5) (by kernel_rfl) rfl (by rfl) (fun K hK => ?_)
    go_simp
    refine (concatK1 bk B m c ks X2 cbk (KK.out.below hbX2) (by omega)).mono ?_
    rintro e X3 ⟨v2, rfl, g2, hst⟩
    obtain ⟨F2, N2, f2, rfl⟩ := g2.shape
    have rk := g2.lower (base' := W.heap.size) hbX2.size
    clear g2
    have hbX3 := hbX2.trans (hst.mono hbX2.size)
    replace cbz := below_read hst cbz
    refine hK.out _ _ (fun _ => HC.out X3 hbX3) ?_
    clear hK K hst
    try simp only [Act.put, List.setIfInBounds_toArray, List.set_cons_zero, List.set_cons_succ]
    refine oneT (i := 9) (by kernel_rfl) rfl (by rfl) (fun K hK => ?_)
    go_simp
    refine (concatR1 bz C p q ws X3 cbz (KZ.out.below hbX3) (by omega)).mono ?_
    rintro e X4 ⟨v3, rfl, g3, hst⟩
    obtain ⟨F3, N3, f3, rfl⟩ := g3.shape
    have rz := g3.lower (base' := W.heap.size) hbX3.size
    clear g3
    have hbX4 := hbX3.trans (hst.mono hbX3.size)
    replace rk := rk.next hst
    refine hK.out _ _ (fun _ => HC.out X4 hbX4) ?_
    clear hK K hst
    try simp only [Act.put, List.setIfInBounds_toArray, List.set_cons_zero, List.set_cons_succ]
    have hC := HC.out X4 hbX4
    refine takeT (i := 10) (v := ?_) rfl (by kernel_rfl) (by kernel_rfl) (by kernel_rfl) (by kernel_rfl) (fun _ _ _ h => h) hC (by rfl) ?_ ?_
    rotate_left
    · intro w hSw; (try dsimp only at hSw); go_simp; try (with_reducible rfl)
    try simp only [Act.put, List.setIfInBounds_toArray, List.set_cons_zero, List.set_cons_succ]
    have mv := HV.out.below hbX4
    obtain ⟨y0, y1, y2, y3⟩ := id mv
    have HE : Hid (MadeI w ks ws (.returned (.agg #[.slice F2 N2 f2, .slice F3 N3 f3])) ((X4.setCell ⟨R, 0, none⟩ (.slice F2 N2 f2)).setCell ⟨R, 1, none⟩ (.slice F3 N3 f3))) := madeI_end1 rk rz HW.out hRl (by have := HB.out; have := HBR.out; omega) (HW.out.trans (hbX4.mono HW.out.size))
    clear hC mv
    refine oneT (i := 11) (by kernel_rfl) rfl (by rfl) (fun K hK => ?_)
    go_simp
    refine hK.out _ _ (fun h => by cases h) ?_
    clear hK K
    refine doneT (by kernel_rfl) ?_
    clear rk rz
    go_wp2
    ((try simp only [Exit.inBlock, Exit.then]); refine bodyPost_ret (results_stored rfl rfl y0 y1) rfl ?_)
    exact HE.out
/-- How many entries. -/
theorem snapSize_walk (hp : p ≤ 100000) (hn : n1 ≤ 100000) :
    Calls Try.prog 40 #[snv rf inf x y (.slice P n1 c1) pv zv (.slice C p q)] w fun e w' => e = .returned (.int .i64 (if x = true then (p : Int) else (n1 : Int))) ∧ Below w.heap.size w w' := by
  obtain ⟨W, b, hW, hb, hb0, e8⟩ := snap_box w rf inf x y (.slice P n1 c1) pv zv (.slice C p q)
  obtain ⟨-, -, d2, -, d4, -, -, d7⟩ := e8.cells
  have HW := Lib.hid hb0
  have HW2 : Hid (Below b w W) := by rw [← hb]; exact hb0
  clear hb0 e8
  cases x with
  | true =>
    go_enter Try.func40, Try.ntmps40
    go_wp2_with fail
    (try rw [hW]); (try rw [hb])
    go_wp2
    go_ret
    first | exact ⟨rfl, HW.out⟩ | exact ⟨rfl, HW2.out⟩
  | false =>
    go_enter Try.func40, Try.ntmps40
    go_wp2_with fail
    (try rw [hW]); (try rw [hb])
    go_wp2
    go_ret
    first | exact ⟨rfl, HW.out⟩ | exact ⟨rfl, HW2.out⟩
def goesTo (ws : List Int) (way r : Int) (i : Nat) : Bool := decide (0 ≤ way ∧ way.toNat < i ∧ ws[way.toNat]? = some r)
/-- Does a way go there? -/
theorem snapGoes_walk {way r : Int} (hz : Sl w C p q ws) (hp : p ≤ 100000) :
    Calls Try.prog 30 #[snv rf inf x y (.slice P n1 c1) pv zv (.slice C p q), .int .i64 way, .int .i64 r] w fun e w' => e = .returned (.bool (goesTo ws way r p)) ∧ Below w.heap.size w w' := by
  obtain ⟨W, b, hW, hb, hb0, e8⟩ := snap_box w rf inf x y (.slice P n1 c1) pv zv (.slice C p q)
  obtain ⟨-, -, d2, -, d4, -, -, d7⟩ := e8.cells
  have HW := Lib.hid hb0
  have HW2 : Hid (Below b w W) := by rw [← hb]; exact hb0
  have HZ : Hid (Sl W C p q ws) := hz.below hb0
  clear hb0 e8 hz
  have hlen := HZ.out.len
  by_cases h0 : 0 ≤ way
  · by_cases h1 : way < (p : Int)
    · obtain ⟨k, rfl⟩ := Int.eq_ofNat_of_zero_le h0
      have hk : k < ws.length := by omega
      obtain ⟨g, off, rfl, hg, hc⟩ := HZ.out.at_ hk
      have hE : goesTo ws (k : Int) r p = decide (ws[k] = r) := by
        unfold goesTo
        rw [decide_eq_decide, Int.toNat_natCast, List.getElem?_eq_getElem hk]
        constructor
        · rintro ⟨-, -, h⟩; injection h
        · intro h; exact ⟨by omega, by omega, by rw [h]⟩
      rw [hE]
      clear hE hlen HZ
      generalize ws[k] = z at *
      go_enter Try.func30, Try.ntmps30
      go_wp2_with fail
      (try rw [hW]); (try rw [hb])
      go_wp2
      go_ret
      refine ⟨by first | rfl | simp, ?_⟩
      first | exact HW.out | exact HW2.out
    · have hE : goesTo ws way r p = false := by
        unfold goesTo
        simp only [decide_eq_false_iff_not]
        rintro ⟨-, h, -⟩
        omega
      rw [hE]
      clear hE hlen HZ
      go_enter Try.func30, Try.ntmps30
      go_wp2_with fail
      (try rw [hW]); (try rw [hb])
      go_wp2
      go_ret
      first | exact ⟨rfl, HW.out⟩ | exact ⟨rfl, HW2.out⟩
  · have hE : goesTo ws way r p = false := by
      unfold goesTo
      simp only [decide_eq_false_iff_not]
      rintro ⟨h, -⟩
      exact h0 h
    rw [hE]
    clear hE hlen HZ
    go_enter Try.func30, Try.ntmps30
    go_wp2_with fail
    (try rw [hW]); (try rw [hb])
    go_wp2
    go_ret
    first | exact ⟨rfl, HW.out⟩ | exact ⟨rfl, HW2.out⟩
end
end Go.Proofs.Ytieebiblpcciaaa
