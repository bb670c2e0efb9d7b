/-
  The last two nodes on the way to a key.
-/
import Derived.Test.YtmnldlhpiapalaaPk
import Derived.Test.YtmnldlhpiapalaaGf11
import Derived.Deep.Cut
namespace Go.Proofs.Ytmnldlhpiapalaa
open Go.ChangeShapes Go.WideShapes Go.ChangeAt Go.RowKit
set_option linter.unusedVariables false
set_option linter.unusedSimpArgs false
set_option maxRecDepth 20000

def zeroSp : Sp := ⟨0, ⟨false, false, [], [], []⟩, 0⟩
/-- The last two; none: there aren't two. -/
def last2 (l : List Sp) : Sp × Sp := if l.length < 2 then (zeroSp, zeroSp) else (l.getD (l.length - 2) zeroSp, l.getD (l.length - 1) zeroSp)
/-- What Leaf answers. -/
def LfU (l : List Sp) (Y : Nat → Prop) (w : World) (v : Value) : Prop := ∃ P1 n1 q1 P2 n2 q2 P3 n3 q3 P4 n4 q4 P5 n5 q5 P6 n6 q6, v = .tuple #[stv (last2 l).1.rf (last2 l).1.nd.inn (last2 l).1.nd.tag (.slice P1 n1 q1) (.slice P2 n2 q2) (.slice P3 n3 q3) (last2 l).1.wy, stv (last2 l).2.rf (last2 l).2.nd.inn (last2 l).2.nd.tag (.slice P4 n4 q4) (.slice P5 n5 q5) (.slice P6 n6 q6) (last2 l).2.wy] ∧ Lp w P4 n4 q4 (last2 l).2.nd.ps
section
variable {w w' : World}
theorem leaf_boxes (w : World) (a W me : Nat) : ∃ (X : World) (p u1 u2 : Nat), ((w.alloc (.cells #[ptr a, ptr W, .int .i64 (me : Int)] tkT)).alloc (.cells #[.int .i64 0, .bool false, .bool false, .slice none 0 0, .slice none 0 0, .slice none 0 0, .int .i64 0] stT)).alloc (.cells #[.int .i64 0, .bool false, .bool false, .slice none 0 0, .slice none 0 0, .slice none 0 0, .int .i64 0] stT) = X ∧ w.heap.size = p ∧ p + 1 = u1 ∧ u1 + 1 = u2 ∧ Below w.heap.size w X ∧ Tk X p a W me ∧ Sev X u1 0 false false (.slice none 0 0) (.slice none 0 0) (.slice none 0 0) 0 ∧ Sev X u2 0 false false (.slice none 0 0) (.slice none 0 0) (.slice none 0 0) 0 ∧ X.heap.size = u2 + 1 := by
  obtain ⟨X, p, q, hX, hp, hq, hb, ht, he, hs⟩ := look_boxes w a W me
  have b2 := below_new X (.cells #[.int .i64 0, .bool false, .bool false, .slice none 0 0, .slice none 0 0, .slice none 0 0, .int .i64 0] stT)
  refine ⟨_, p, q, q + 1, rfl, hp, hq, rfl, ?_, ?_, ?_, ?_, ?_⟩
  · rw [hX]; exact hb.trans (b2.mono hb.size)
  · rw [hX]; exact ht.cells (b2.block p (by omega))
  · rw [hX]; exact he.below b2
  · rw [hX]; exact Sev.new X hs _ _ _ _ _ _ _
  · rw [hX]; simp [hs]
theorem results_sev2 {R R' : Nat} {fn : Func} {t t' : Tmp} {tmps : Array Value} {rf wy rf' wy' : Int} {x y x' y' : Bool} {pv kv zv pv' kv' zv' : Value} (h : fn.results = #[.cell t stT, .cell t' stT]) (ht : tmps.getD t undef = .pointer (some ⟨R, 0, none⟩)) (ht2 : tmps.getD t' undef = .pointer (some ⟨R', 0, none⟩))
    (h8 : Sev w R rf x y pv kv zv wy) (h9 : Sev w R' rf' x' y' pv' kv' zv' wy') : (results fn tmps).run Try.prog w = .ok (.tuple #[stv rf x y pv kv zv wy, stv rf' x' y' pv' kv' zv' wy']) w := by
  have h1 := load_sev h8
  have h2 := load_sev h9
  have k1 : tmps[t]?.getD undef = .pointer (some ⟨R, 0, none⟩) := by simpa using ht
  have k2 : tmps[t']?.getD undef = .pointer (some ⟨R', 0, none⟩) := by simpa using ht2
  simp [results, h, k1, k2, asAddr, h1, h2]
theorem put7_grown (w : World) (R : Nat) (rf : Int) (x y : Bool) (pv kv zv : Value) (wy : Int) : w.grownBy (put7 w R rf x y pv kv zv wy) (some R) :=
  have h := only_put7 w R rf x y pv kv zv wy
  ⟨h.os, h.tape, h.output, h.size, fun b hb hn => h.block b hb fun e => hn (by rw [e])⟩
theorem put7_block (w : World) (R : Nat) (rf : Int) (x y : Bool) (pv kv zv : Value) (wy : Int) {b : Nat} (hb : b ≠ R) : (put7 w R rf x y pv kv zv wy).heap[b]? = w.heap[b]? := by
  unfold put7
  rw [heap_setCell_other _ _ b _ hb, heap_setCell_other _ _ b _ hb, heap_setCell_other _ _ b _ hb, heap_setCell_other _ _ b _ hb, heap_setCell_other _ _ b _ hb, heap_setCell_other _ _ b _ hb, heap_setCell_other _ _ b _ hb]
end
section
variable {β : Type} {nds : List (Int × Nd)} {rk : Int → Nat} {M mo D : Nat} {d : Wd} {R : Nat → Prop} {w : World} {a me : Nat} {wk : Value} {c : Cur} {s : Sig} {key : Int}
set_option maxHeartbeats 8000000 in
theorem leaf_touch {K : List Sp → Tr β} (hN : NdsOk nds) (hmo : mo ≤ 70000) (hD : D ≤ mo) (hen : (nds.lookup d.en).isSome = true ∧ rk d.en ≤ D) (h : Lv d R w a wk c s) (hP : SkI nds rk M mo s) (hpt : c.live = true → path ((tPath nds rk key (D + 1) d.en []).bind K) (c.zs.drop c.k) s) :
    Calls Try.prog 44 #[tkV a d.W me, .int .i64 key] w (PostM d R w a wk LfU (run (tPath nds rk key (D + 1) d.en []) c s)) := by
  have HR := Lib.hid h.lt
  obtain ⟨X, p, u1, u2, hX, hp, hu1, hu2, bX, tk, e1, e2, sX⟩ := leaf_boxes w a d.W me
  obtain ⟨o, ho⟩ : ∃ o, run (tPath nds rk key (D + 1) d.en []) c s = o := ⟨_, rfl⟩
  rw [ho]
  have HB : Hid (BT (SkI nds rk M mo) d R (fun b => R b ∨ b = p ∨ b = u1 ∨ b = u2) w a me wk p o ((tPath nds rk key (D + 1) d.en []).bind .ret) X c s) := by
    show BT _ _ _ _ _ _ _ _ _ _ _ _ _ _
    rw [Tr.bind_ret, ← ho]
    exact BT.begin_ h bX (fun b e => by
      rcases e with e | e | e | e
      · exact .inl e
      · exact .inr (by omega)
      · exact .inr (by omega)
      · exact .inr (by omega)) (fun b e => e.imp id .inl) tk hP
  have HD := Lib.hid (path_touch (me := me) (K := K) hN hmo hD hen HB.out.lv HB.out.inv hpt)
  have HE1 := Lib.hid e1
  have HE2 := Lib.hid e2
  have HPU : Hid (w.heap.size = p ∧ p + 1 = u1 ∧ u1 + 1 = u2) := ⟨hp, hu1, hu2⟩
  have HDM : Hid (D ≤ 70000) := by show _ ≤ _; omega
  obtain ⟨t0, t1, t2⟩ := tk
  clear h bX sX hP ho hpt hN hen hD hmo e1 e2
  go_enter Try.func44, Try.ntmps44
  go_wp2_with fail
  (try rw [hX]); (try rw [hp]); (try rw [hu1]); (try rw [hu2])
  clear hX hp hu1 hu2
  refine HD.out.mono ?_
  clear HD t0 t1 t2
  intro e w1 hPm
  rcases BT.callM (P := SkI nds rk M mo) (t := tPath nds rk key (D + 1) d.en []) (o := o) (K := fun l : List Sp => (.ret l : Tr (List Sp))) HB.out (keeps_kpP (kp_path _ _ _)) hPm with ⟨l, c2, s2, v, Y, rfl, hrun, hu, hB, hKp, hYn⟩ | hx
  case inr => obtain ⟨rfl, hx⟩ := hx; exact ⟨rfl, .inr ⟨rfl, hx⟩⟩
  have hlen : l.length ≤ ([] : List Sp).length + (D + 1) := run_rets (Q := fun l => l.length ≤ ([] : List Sp).length + (D + 1)) (rets_path (D + 1) d.en []) hrun
  rw [List.length_nil, Nat.zero_add] at hlen
  have hu : SpL l Y w1 v := hu
  obtain ⟨A4, q4, rfl, -⟩ := hu.shape
  obtain ⟨m, hm⟩ : ∃ m, l.length = m := ⟨_, rfl⟩
  have hmb : m ≤ 70001 := by have := HDM.out; omega
  have eU1 := HE1.out.at_ (hKp.block u1 (.inr (.inr (.inl rfl))))
  have eU2 := HE2.out.at_ (hKp.block u2 (.inr (.inr (.inr rfl))))
  have HMM := Lib.hid hm
  have HBT := Lib.hid hB
  have HU := Lib.hid hu
  have HYN := Lib.hid hYn
  have HU1 := Lib.hid eU1
  have HU2 := Lib.hid eU2
  have HNR : Hid (¬ R u1 ∧ u1 ≠ p ∧ ¬ R u2 ∧ u2 ≠ p ∧ u1 ≠ u2) := by
    have h1 := HPU.out
    exact ⟨fun f => by have := HR.out _ f; omega, by omega, fun f => by have := HR.out _ f; omega, by omega, by omega⟩
  obtain ⟨c0, c1, c2', c3, c4, c5, c6⟩ := eU1.cells
  obtain ⟨f0, f1, f2, f3, f4, f5, f6⟩ := eU1.frees
  obtain ⟨d0, d1, d2, d3, d4, d5, d6⟩ := eU2.cells
  obtain ⟨g0, g1, g2, g3, g4, g5, g6⟩ := eU2.frees
  rw [hm]
  have HBX : Hid (∀ (v : World), Below w1.heap.size w1 v → ∀ (rf wy rf' wy' : Int) (x y x' y' : Bool) (pv kv zv pv' kv' zv' : Value), BT (SkI nds rk M mo) d R (fun b => (R b ∨ b = p ∨ b = u1 ∨ b = u2) ∨ Y b) w a me wk p o (.ret l) (put7 (put7 v u1 rf x y pv kv zv wy) u2 rf' x' y' pv' kv' zv' wy') c2 s2 ∧ Sev (put7 (put7 v u1 rf x y pv kv zv wy) u2 rf' x' y' pv' kv' zv' wy') u1 rf x y pv kv zv wy ∧ Sev (put7 (put7 v u1 rf x y pv kv zv wy) u2 rf' x' y' pv' kv' zv' wy') u2 rf' x' y' pv' kv' zv' wy') := by
    intro v hb rf wy rf' wy' x y x' y' pv kv zv pv' kv' zv'
    have hn := HNR.out
    have hA := (HBT.out.below hb).kept (X' := fun b => (R b ∨ b = p ∨ b = u1 ∨ b = u2) ∨ Y b) (put7_grown v u1 rf x y pv kv zv wy) (fun b e => by injection e with e; subst e; exact ⟨.inl (.inr (.inr (.inl rfl))), hn.1, hn.2.1⟩) (fun b e => .inl e) (fun b e => .inl (e.imp id .inl))
    have hB2 := hA.kept (X' := fun b => (R b ∨ b = p ∨ b = u1 ∨ b = u2) ∨ Y b) (put7_grown _ u2 rf' x' y' pv' kv' zv' wy') (fun b e => by injection e with e; subst e; exact ⟨.inl (.inr (.inr (.inr rfl))), hn.2.2.1, hn.2.2.2.1⟩) (fun b e => .inl e) (fun b e => .inl (e.imp id .inl))
    have k1 := (HU1.out.below hb).put (rf := rf) (x := x) (y := y) (pv := pv) (kv := kv) (zv := zv) (wy := wy)
    have k2 := ((HU2.out.below hb).at_ (put7_block v u1 rf x y pv kv zv wy (b := u2) (fun f => hn.2.2.2.2 f.symm))).put (rf := rf') (x := x') (y := y') (pv := pv') (kv := kv') (zv := zv') (wy := wy')
    exact ⟨hB2, k1.at_ (put7_block _ u2 rf' x' y' pv' kv' zv' wy' hn.2.2.2.2), k2⟩
  by_cases h2 : m < 2
  · have i1 : (m : Int) < 2 := by omega
    have HL2 : Hid (last2 l = (zeroSp, zeroSp)) := by show _ = _; unfold last2; rw [if_pos (by omega)]
    clear hB hKp hYn hu hPm HB hrun hm hlen eU1 eU2
    have hn1 : ¬ u1 = u2 := HNR.out.2.2.2.2
    have hn2 : ¬ u2 = u1 := fun f => hn1 f.symm
    go_wp2
    have hE := HBX.out _ (Below.refl _ w1) 0 0 0 0 false false false false (.slice none 0 0) (.slice none 0 0) (.slice none 0 0) (.slice none 0 0) (.slice none 0 0) (.slice none 0 0)
    ((try simp only [Exit.inBlock, Exit.then]); refine bodyPost_ret (results_sev2 rfl rfl rfl hE.2.1 hE.2.2) rfl ?_)
    refine hE.1.postM (Y := fun _ => False) ?_ (fun b f => f.elim) (fun b f => f.elim)
    refine ⟨none, 0, 0, none, 0, 0, none, 0, 0, none, 0, 0, none, 0, 0, none, 0, 0, ?_, ?_⟩
    · rw [HL2.out]; rfl
    · rw [HL2.out]; exact Lp.nil _
  · have i1 : ¬ (m : Int) < 2 := by omega
    obtain ⟨m0, hm0⟩ : ∃ m0, m - 2 = m0 := ⟨_, rfl⟩
    obtain ⟨m1, hm1⟩ : ∃ m1, m - 1 = m1 := ⟨_, rfl⟩
    have hw0 : IntKind.i64.wrap ((m : Int) - 2) = (m0 : Int) := by rw [show (m : Int) - 2 = (m0 : Int) from by omega]; exact IntWalk.i64_in _ (by omega)
    have hw1 : IntKind.i64.wrap ((m : Int) - 1) = (m1 : Int) := by rw [show (m : Int) - 1 = (m1 : Int) from by omega]; exact IntWalk.i64_in _ (by omega)
    have j0 : (m0 : Int) < (m : Int) := by omega
    have j1 : (m1 : Int) < (m : Int) := by omega
    have j2 : (0 : Int) ≤ (m0 : Int) := by omega
    have j3 : (0 : Int) ≤ (m1 : Int) := by omega
    obtain ⟨x0, hx0⟩ : ∃ x, l[m0]? = some x := ⟨_, List.getElem?_eq_getElem (by omega)⟩
    obtain ⟨x1, hx1⟩ : ∃ x, l[m1]? = some x := ⟨_, List.getElem?_eq_getElem (by omega)⟩
    obtain ⟨g, pv, kv, zv, rfl, -, hYg, hN0, y0, y1, y2, y3, y4, y5, y6⟩ := hu.at_ hx0
    obtain ⟨g', pv', kv', zv', hgg, -, -, hN1, z0, z1, z2, z3, z4, z5, z6⟩ := hu.at_ hx1
    obtain rfl : g = g' := by injection hgg with hgg; injection hgg
    obtain ⟨P1, n1, q1, rfl⟩ := hN0.p.shape
    obtain ⟨P2, n2, q2, rfl⟩ := hN0.k.shape
    obtain ⟨P3, n3, q3, rfl⟩ := hN0.z.shape
    obtain ⟨P4, n4, q4', rfl⟩ := hN1.p.shape
    obtain ⟨P5, n5, q5, rfl⟩ := hN1.k.shape
    obtain ⟨P6, n6, q6, rfl⟩ := hN1.z.shape
    have HL2 : Hid (last2 l = (x0, x1)) := by
      show _ = _
      unfold last2
      rw [if_neg (by omega), hm, hm0, hm1]
      simp [List.getD, hx0, hx1]
    have hYlt : ∀ b, Y b → b ≠ u1 ∧ b ≠ u2 := fun b f => by
      have h1 := hYn b f
      have h2 := HB.out.lv.lt u1 (.inr (.inr (.inl rfl)))
      have h3 := HB.out.lv.lt u2 (.inr (.inr (.inr rfl)))
      omega
    have hLp : ∀ (v : World), Below w1.heap.size w1 v → ∀ (rf wy rf' wy' : Int) (x y x' y' : Bool) (pv kv zv pv' kv' zv' : Value), Lp (put7 (put7 v u1 rf x y pv kv zv wy) u2 rf' x' y' pv' kv' zv' wy') P4 n4 q4' x1.nd.ps := fun v hb rf wy rf' wy' x y x' y' pv kv zv pv' kv' zv' => by
      have hown : ∀ b, (Value.slice P4 n4 q4').ownBlock = some b → b ≠ u1 ∧ b ≠ u2 := fun b f => hYlt b (hN1.own b (.inl f))
      exact (show Prs 0 _ _ _ from own_at hN1.p fun b f => ((put7_block _ u2 rf' x' y' pv' kv' zv' wy' (hown b f).2).trans (put7_block v u1 rf x y pv kv zv wy (hown b f).1)).trans (hb.block b (HBT.out.lv.lt b (.inr (hN1.own b (.inl f)))))).lp
    have HLP := Lib.hid hLp
    have hgu := hYlt g hYg
    have HC : Hid (∀ w' : World, w'.heap[g]? = w1.heap[g]? → w'.cell? ⟨g, m0 * 7, none⟩ = some (.int .i64 x0.rf) ∧ w'.cell? ⟨g, m0 * 7 + 1, none⟩ = some (.bool x0.nd.inn) ∧ w'.cell? ⟨g, m0 * 7 + 2, none⟩ = some (.bool x0.nd.tag) ∧ w'.cell? ⟨g, m0 * 7 + 3, none⟩ = some (.slice P1 n1 q1) ∧ w'.cell? ⟨g, m0 * 7 + 4, none⟩ = some (.slice P2 n2 q2) ∧ w'.cell? ⟨g, m0 * 7 + 5, none⟩ = some (.slice P3 n3 q3) ∧ w'.cell? ⟨g, m0 * 7 + 6, none⟩ = some (.int .i64 x0.wy) ∧ w'.cell? ⟨g, m1 * 7, none⟩ = some (.int .i64 x1.rf) ∧ w'.cell? ⟨g, m1 * 7 + 1, none⟩ = some (.bool x1.nd.inn) ∧ w'.cell? ⟨g, m1 * 7 + 2, none⟩ = some (.bool x1.nd.tag) ∧ w'.cell? ⟨g, m1 * 7 + 3, none⟩ = some (.slice P4 n4 q4') ∧ w'.cell? ⟨g, m1 * 7 + 4, none⟩ = some (.slice P5 n5 q5) ∧ w'.cell? ⟨g, m1 * 7 + 5, none⟩ = some (.slice P6 n6 q6) ∧ w'.cell? ⟨g, m1 * 7 + 6, none⟩ = some (.int .i64 x1.wy)) := fun w' h => ⟨cell_same h y0, cell_same h y1, cell_same h y2, cell_same h y3, cell_same h y4, cell_same h y5, cell_same h y6, cell_same h z0, cell_same h z1, cell_same h z2, cell_same h z3, cell_same h z4, cell_same h z5, cell_same h z6⟩
    have HGU := Lib.hid hgu
    have HGL : Hid (g < w1.heap.size) := HBT.out.lv.lt g (.inr hYg)
    clear hB hKp hYn hu hPm HB hrun hm hlen eU1 eU2 hm0 hm1 hx0 hx1 hN0 hN1 hYlt hLp hgu y0 y1 y2 y3 y4 y5 y6 z0 z1 z2 z3 z4 z5 z6 hYg hgg h2
    go_upto_region 4 with fail
    obtain ⟨W0, hW0, hb0⟩ : ∃ W0 : World, w1.drew = W0 ∧ Below w1.heap.size w1 W0 := ⟨_, rfl, (Below.refl _ w1).drew⟩
    have HB0 := Lib.hid hb0
    clear hb0 c0 c1 c2' c3 c4 c5 c6 f0 f1 f2 f3 f4 f5 f6 d0 d1 d2 d3 d4 d5 d6 g0 g1 g2 g3 g4 g5 g6
    refine region_T (fun k => k == 13) (fun w' : World => w'.cell? ⟨g, m0 * 7, none⟩ = some (.int .i64 x0.rf) ∧ w'.cell? ⟨g, m0 * 7 + 1, none⟩ = some (.bool x0.nd.inn) ∧ w'.cell? ⟨g, m0 * 7 + 2, none⟩ = some (.bool x0.nd.tag) ∧ w'.cell? ⟨g, m0 * 7 + 3, none⟩ = some (.slice P1 n1 q1) ∧ w'.cell? ⟨g, m0 * 7 + 4, none⟩ = some (.slice P2 n2 q2) ∧ w'.cell? ⟨g, m0 * 7 + 5, none⟩ = some (.slice P3 n3 q3) ∧ w'.cell? ⟨g, m0 * 7 + 6, none⟩ = some (.int .i64 x0.wy) ∧ w'.cell? ⟨g, m1 * 7, none⟩ = some (.int .i64 x1.rf) ∧ w'.cell? ⟨g, m1 * 7 + 1, none⟩ = some (.bool x1.nd.inn) ∧ w'.cell? ⟨g, m1 * 7 + 2, none⟩ = some (.bool x1.nd.tag) ∧ w'.cell? ⟨g, m1 * 7 + 3, none⟩ = some (.slice P4 n4 q4') ∧ w'.cell? ⟨g, m1 * 7 + 4, none⟩ = some (.slice P5 n5 q5) ∧ w'.cell? ⟨g, m1 * 7 + 5, none⟩ = some (.slice P6 n6 q6) ∧ w'.cell? ⟨g, m1 * 7 + 6, none⟩ = some (.int .i64 x1.wy)) (by kernel_rfl) ?_
    rw [hW0]
    clear hW0
    have hC := HC.out W0 (HB0.out.block g HGL.out)
    refine takeX 0 15 (v := ?_) rfl rfl (by kernel_rfl) (by kernel_rfl) (by kernel_rfl) (by kernel_rfl) (by kernel_rfl) (fun _ _ _ _ h => h) hC (by rfl) ?_ ?_
    rotate_left
    · intro w hSw; (try dsimp only at hSw); go_simp; try (with_reducible rfl)
    simp only [List.setIfInBounds_toArray, List.set_cons_zero, List.set_cons_succ]
    refine takeX 1 16 (v := ?_) rfl rfl (by kernel_rfl) (by kernel_rfl) (by kernel_rfl) (by kernel_rfl) (by kernel_rfl) (fun _ _ _ _ h => h) hC (by rfl) ?_ ?_
    rotate_left
    · intro w hSw; (try dsimp only at hSw); go_simp; try (with_reducible rfl)
    simp only [List.setIfInBounds_toArray, List.set_cons_zero, List.set_cons_succ]
    refine takeX 2 17 (v := ?_) rfl rfl (by kernel_rfl) (by kernel_rfl) (by kernel_rfl) (by kernel_rfl) (by kernel_rfl) (fun _ _ _ _ h => h) hC (by rfl) ?_ ?_
    rotate_left
    · intro w hSw; (try dsimp only at hSw); go_simp; try (with_reducible rfl)
    simp only [List.setIfInBounds_toArray, List.set_cons_zero, List.set_cons_succ]
    refine takeX 3 18 (v := ?_) rfl rfl (by kernel_rfl) (by kernel_rfl) (by kernel_rfl) (by kernel_rfl) (by kernel_rfl) (fun _ _ _ _ h => h) hC (by rfl) ?_ ?_
    rotate_left
    · intro w hSw; (try dsimp only at hSw); go_simp; try (with_reducible rfl)
    simp only [List.setIfInBounds_toArray, List.set_cons_zero, List.set_cons_succ]
    refine takeX 4 19 (v := ?_) rfl rfl (by kernel_rfl) (by kernel_rfl) (by kernel_rfl) (by kernel_rfl) (by kernel_rfl) (fun _ _ _ _ h => h) hC (by rfl) ?_ ?_
    rotate_left
    · intro w hSw; (try dsimp only at hSw); go_simp; try (with_reducible rfl)
    simp only [List.setIfInBounds_toArray, List.set_cons_zero, List.set_cons_succ]
    refine takeX 5 20 (v := ?_) rfl rfl (by kernel_rfl) (by kernel_rfl) (by kernel_rfl) (by kernel_rfl) (by kernel_rfl) (fun _ _ _ _ h => h) hC (by rfl) ?_ ?_
    rotate_left
    · intro w hSw; (try dsimp only at hSw); go_simp; try (with_reducible rfl)
    simp only [List.setIfInBounds_toArray, List.set_cons_zero, List.set_cons_succ]
    refine takeX 6 21 (v := ?_) rfl rfl (by kernel_rfl) (by kernel_rfl) (by kernel_rfl) (by kernel_rfl) (by kernel_rfl) (fun _ _ _ _ h => h) hC (by rfl) ?_ ?_
    rotate_left
    · intro w hSw; (try dsimp only at hSw); go_simp; try (with_reducible rfl)
    simp only [List.setIfInBounds_toArray, List.set_cons_zero, List.set_cons_succ]
    refine takeX 7 22 (v := ?_) rfl rfl (by kernel_rfl) (by kernel_rfl) (by kernel_rfl) (by kernel_rfl) (by kernel_rfl) (fun _ _ _ _ h => h) hC (by rfl) ?_ ?_
    rotate_left
    · intro w hSw; (try dsimp only at hSw); go_simp; try (with_reducible rfl)
    simp only [List.setIfInBounds_toArray, List.set_cons_zero, List.set_cons_succ]
    refine takeX 8 23 (v := ?_) rfl rfl (by kernel_rfl) (by kernel_rfl) (by kernel_rfl) (by kernel_rfl) (by kernel_rfl) (fun _ _ _ _ h => h) hC (by rfl) ?_ ?_
    rotate_left
    · intro w hSw; (try dsimp only at hSw); go_simp; try (with_reducible rfl)
    simp only [List.setIfInBounds_toArray, List.set_cons_zero, List.set_cons_succ]
    refine takeX 9 24 (v := ?_) rfl rfl (by kernel_rfl) (by kernel_rfl) (by kernel_rfl) (by kernel_rfl) (by kernel_rfl) (fun _ _ _ _ h => h) hC (by rfl) ?_ ?_
    rotate_left
    · intro w hSw; (try dsimp only at hSw); go_simp; try (with_reducible rfl)
    simp only [List.setIfInBounds_toArray, List.set_cons_zero, List.set_cons_succ]
    refine takeX 10 25 (v := ?_) rfl rfl (by kernel_rfl) (by kernel_rfl) (by kernel_rfl) (by kernel_rfl) (by kernel_rfl) (fun _ _ _ _ h => h) hC (by rfl) ?_ ?_
    rotate_left
    · intro w hSw; (try dsimp only at hSw); go_simp; try (with_reducible rfl)
    simp only [List.setIfInBounds_toArray, List.set_cons_zero, List.set_cons_succ]
    refine takeX 11 26 (v := ?_) rfl rfl (by kernel_rfl) (by kernel_rfl) (by kernel_rfl) (by kernel_rfl) (by kernel_rfl) (fun _ _ _ _ h => h) hC (by rfl) ?_ ?_
    rotate_left
    · intro w hSw; (try dsimp only at hSw); go_simp; try (with_reducible rfl)
    simp only [List.setIfInBounds_toArray, List.set_cons_zero, List.set_cons_succ]
    clear hC
    obtain ⟨c0, c1, c2', c3, c4, c5, c6⟩ := (HU1.out.below HB0.out).cells
    obtain ⟨f0, f1, f2, f3, f4, f5, f6⟩ := (HU1.out.below HB0.out).frees
    refine oneT (i := 12) (by kernel_rfl) rfl (by rfl) (fun KK hK => ?_)
    go_simp
    refine hK.out _ _ (fun _ => HC.out _ ((put7_block W0 u1 x0.rf x0.nd.inn x0.nd.tag (.slice P1 n1 q1) (.slice P2 n2 q2) (.slice P3 n3 q3) x0.wy HGU.out.1).trans (HB0.out.block g HGL.out))) ?_
    clear hK KK
    try simp only [Act.put, List.setIfInBounds_toArray, List.set_cons_zero, List.set_cons_succ]
    obtain ⟨V1, hV1⟩ : ∃ V1, put7 W0 u1 x0.rf x0.nd.inn x0.nd.tag (.slice P1 n1 q1) (.slice P2 n2 q2) (.slice P3 n3 q3) x0.wy = V1 := ⟨_, rfl⟩
    have eV := (HU2.out.below HB0.out).at_ (put7_block W0 u1 x0.rf x0.nd.inn x0.nd.tag (.slice P1 n1 q1) (.slice P2 n2 q2) (.slice P3 n3 q3) x0.wy (b := u2) (fun f => HNR.out.2.2.2.2 f.symm))
    have hE := HBX.out W0 HB0.out x0.rf x0.wy x1.rf x1.wy x0.nd.inn x0.nd.tag x1.nd.inn x1.nd.tag (.slice P1 n1 q1) (.slice P2 n2 q2) (.slice P3 n3 q3) (.slice P4 n4 q4') (.slice P5 n5 q5) (.slice P6 n6 q6)
    have hL := HLP.out W0 HB0.out x0.rf x0.wy x1.rf x1.wy x0.nd.inn x0.nd.tag x1.nd.inn x1.nd.tag (.slice P1 n1 q1) (.slice P2 n2 q2) (.slice P3 n3 q3) (.slice P4 n4 q4') (.slice P5 n5 q5) (.slice P6 n6 q6)
    rw [hV1] at eV hE hL
    unfold put7 at hV1
    (try rw [hV1])
    have HE := Lib.hid hE
    have HLL := Lib.hid hL
    clear hV1 hE hL c0 c1 c2' c3 c4 c5 c6 f0 f1 f2 f3 f4 f5 f6
    obtain ⟨d0, d1, d2, d3, d4, d5, d6⟩ := eV.cells
    obtain ⟨g0, g1, g2, g3, g4, g5, g6⟩ := eV.frees
    clear eV
    refine oneT (i := 13) (by kernel_rfl) rfl (by rfl) (fun KK hK => ?_)
    go_simp
    refine hK.out _ _ (fun h => absurd h (by decide)) ?_
    clear hK KK
    try simp only [Act.put, List.setIfInBounds_toArray, List.set_cons_zero, List.set_cons_succ]
    refine doneT (by kernel_rfl) ?_
    go_wp2
    ((try simp only [Exit.inBlock, Exit.then]); refine bodyPost_ret (results_sev2 rfl rfl rfl HE.out.2.1 HE.out.2.2) rfl ?_)
    refine HE.out.1.postM (Y := fun _ => False) ?_ (fun b f => f.elim) (fun b f => f.elim)
    refine ⟨P1, n1, q1, P2, n2, q2, P3, n3, q3, P4, n4, q4', P5, n5, q5, P6, n6, q6, ?_, ?_⟩
    · rw [HL2.out]
    · rw [HL2.out]; exact HLL.out
end
end Go.Proofs.Ytmnldlhpiapalaa
