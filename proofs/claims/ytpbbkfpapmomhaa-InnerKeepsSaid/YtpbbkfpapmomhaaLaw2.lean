/-
  What the law's own Copy and Join return: new rows.
-/
import Derived.Test.YtpbbkfpapmomhaaLaw1
import Derived.Deep.RegionLaw
namespace Go.Proofs.Ytpbbkfpapmomhaa
open Go.ChangeShapes Go.WideShapes Go.ChangeAt Go.RowKit
set_option linter.unusedVariables false
set_option linter.unusedSimpArgs false

theorem h_new {w : World} {o : Obj} {b : Nat} (h : w.heap.size = b) : (w.alloc o).heap[b]? = some o := by subst h; exact heap_alloc_new w o
theorem h_old {w : World} {o o' : Obj} {b : Nat} (h : w.heap[b]? = some o) : (w.alloc o').heap[b]? = some o := (Below.heap_alloc w o' b (Array.getElem?_eq_some_iff.1 h).1).trans h
/-- A row without elements that was built at block g. -/
theorem Row.of_block {el : TypeId} {base g : Nat} {w : World} (h : w.heap[g]? = some (.cells #[] el (0, 0))) (hb : base ≤ g) : Row el base w (.slice (some ⟨g, 0, none⟩) 0 0) [] :=
  ⟨rfl, .inr ⟨g, 0, #[], rfl, hb, h, Nat.le_refl _, Nat.zero_le _, rfl, rfl⟩⟩

theorem h_newd {w : World} {o : Obj} {b : Nat} (h : w.heap.size = b) : (w.alloc o).drew.heap[b]? = some o := h_new h
theorem h_oldd {w : World} {o o' : Obj} {b : Nat} (h : w.heap[b]? = some o) : (w.alloc o').drew.heap[b]? = some o := h_old h

/-- 'append(out, src...)' at a step of a region that draws; what else there is of unlike rows stays. -/
theorem step_pushB {sl el : TypeId} (R : RowT sl el) {ops : Array Oper} {o : Oper} {a : Act} {Q : Exit → Act → World → Prop} {base : Nat} {w : World} {K : Act → World → Prop} {E : Prop} (hg : o.guard = none) (s x : Operand) (ho : o.op = .call { callee := .builtin .append, args := #[s, x], argTypes := #[sl, sl] })
    (v : Value) (zs : List Int) (hs : a.eval s = v) (hown : Row el base w v zs) (A : Option Addr) (n c : Nat) (ms : List Int) (hx : a.eval x = .slice A n c) (hm : Sl w A n c ms) (hlen : zs.length + ms.length ≤ 100000) (hb : base ≤ w.heap.size)
    (h : ∀ v' w', Row el base w' v' (zs ++ ms) → Below base w w' → (∀ el' b' v'' zs', el' ≠ el → Row el' b' w v'' zs' → Row el' b' w' v'' zs') → K (a.put o.dst v') w') :
    if Region.wanted o (yielded ops a.tmps) = true then Oper.wp Try.prog o a w K Q else E :=
  step_pushAll R hg s x ho v zs hs hown A n c ms hx hm hlen hb fun v' w' h1 h2 => h v' w' h1 ((Below.refl _ w).grown h2 hb fun k hk => (World.ownsRow.lt hown k hk).1) fun _ _ _ _ hne hr => hr.grown h2 (hr.apart hown hne)

set_option maxHeartbeats 2000000 in
theorem copy_walk (A B : Option Addr) (n c m d : Nat) (ks ws : List Int) (w : World) (hk : Sl w A n c ks) (hw : Sl w B m d ws) (hn : n ≤ 1000) (hm : m ≤ 1000) :
    Calls Try.prog 19 #[inn A n c B m d] w (MadeI w ks ws) := by
  have hn2 : ([] : List Int).length + ks.length ≤ 100000 := by have := hk.len; simp; omega
  have hm2 : ([] : List Int).length + ws.length ≤ 100000 := by have := hw.len; simp; omega
  go_enter Try.func19, Try.ntmps19
  go_wp2
  obtain ⟨W, R, hW, hR, hb0, hs0, HN, HV, hR0, l3, l4⟩ := boxed1v w (.slice A n c) (.slice B m d)
  rw [hW, hR]
  clear hW hR
  obtain ⟨c0, c1⟩ := id HN
  have Hk := hk.below hb0
  have Hw := hw.below hb0
  clear hk hw
  have HF : Hid (∀ w', Below W.heap.size W w' → (w'.cell? ⟨w.heap.size, 0, none⟩ = some (.slice A n c) ∧ w'.cell? ⟨w.heap.size, 1, none⟩ = some (.slice B m d))) := fun w' h => ⟨(HN.below h).1, (HN.below h).2⟩
  go_region_held3 (fun w' => w'.cell? ⟨w.heap.size, 0, none⟩ = some (.slice A n c) ∧ w'.cell? ⟨w.heap.size, 1, none⟩ = some (.slice B m d)) (first | (refine HF.out _ ?_; go_grown; done) | go_keep) (first
    | (refine step_pushB rowR (base := W.heap.size) rfl (.tmp 7) (.tmp 9) rfl _ [] rfl ?_ B m d ws rfl ?_ hm2 ?_ ?_
       (· first | (refine HK1.out _ _ _ _ (by decide) (Row.of_block ?_ ?_); (· (first | exact h_newd (by simp) | exact h_oldd (h_new (by simp)))); (· go_size)) | (refine Row.of_block (h_new rfl) ?_; go_size))
       (· exact Hw.below (by go_grown))
       (· go_size)
       intro v2 w2 g2 hb2 hk2
       obtain ⟨F2, N2, f2, rfl⟩ := g2.shape
       have p2 : Below W.heap.size W w2 := Below.trans (by go_grown) hb2
       have q2 := p2.size
       have g1 : Row 2 W.heap.size w2 (.slice F1 N1 f1) ([] ++ ks) := by first | exact hk2 _ _ _ _ (by decide) HR1.out | exact hk2 _ _ _ _ (by decide) (HR1.out.alloc _)
       obtain ⟨t0, t1, u0, u1⟩ := HV.below p2
       clear hk2 hb2 HK1 HR1)
    | (refine step_pushB rowK (base := W.heap.size) rfl (.tmp 3) (.tmp 5) rfl _ [] rfl ?_ A n c ks rfl ?_ hn2 ?_ ?_
       (· first | (refine HK1.out _ _ _ _ (by decide) (Row.of_block ?_ ?_); (· (first | exact h_newd (by simp) | exact h_oldd (h_new (by simp)))); (· go_size)) | (refine Row.of_block (h_new rfl) ?_; go_size))
       (· exact Hk.below (by go_grown))
       (· go_size)
       intro v1 w1 g1 hb1 hk1
       obtain ⟨F1, N1, f1, rfl⟩ := g1.shape
       have p2 : Below W.heap.size W w1 := Below.trans (by go_grown) hb1
       have q2 := p2.size
       have g2 : Row 35 W.heap.size w1 (.slice F2 N2 f2) ([] ++ ws) := by first | exact hk1 _ _ _ _ (by decide) HR1.out | exact hk1 _ _ _ _ (by decide) (HR1.out.alloc _)
       obtain ⟨t0, t1, u0, u1⟩ := HV.below p2
       clear hk1 hb1 HK1 HR1)
    | (refine step_pushB rowK (base := W.heap.size) rfl (.tmp 3) (.tmp 5) rfl _ [] rfl ?_ A n c ks rfl ?_ hn2 ?_ ?_
       (· refine Row.of_block ?_ ?_; (· (first | exact h_newd (by simp) | exact h_oldd (h_new (by simp)))); (· go_size))
       (· exact Hk.below (by go_grown))
       (· go_size)
       intro v1 w1 hr1 hb1 hk1
       obtain ⟨F1, N1, f1, rfl⟩ := hr1.shape
       have p1 : Below W.heap.size W w1 := Below.trans (by go_grown) hb1
       have q1 := p1.size
       have HK1 := Lib.hid hk1
       have HR1 := Lib.hid hr1
       clear hk1 hb1 hr1)
    | (refine step_pushB rowR (base := W.heap.size) rfl (.tmp 7) (.tmp 9) rfl _ [] rfl ?_ B m d ws rfl ?_ hm2 ?_ ?_
       (· refine Row.of_block ?_ ?_; (· (first | exact h_newd (by simp) | exact h_oldd (h_new (by simp)))); (· go_size))
       (· exact Hw.below (by go_grown))
       (· go_size)
       intro v2 w2 hr2 hb2 hk2
       obtain ⟨F2, N2, f2, rfl⟩ := hr2.shape
       have p1 : Below W.heap.size W w2 := Below.trans (by go_grown) hb2
       have q1 := p1.size
       have HK1 := Lib.hid hk2
       have HR1 := Lib.hid hr2
       clear hk2 hb2 hr2)
    )
  all_goals go_wp2
  all_goals ((try simp only [Exit.inBlock, Exit.then]); refine bodyPost_ret (results_stored rfl rfl t0 t1) rfl ?_)
  all_goals exact madeI_end1 (by simpa using g1) (by simpa using g2) hb0 hs0 (by omega) (hb0.trans (p2.mono hb0.size))

/-- A variable at block O that holds a and b, while rows u of keys and v of ways grow beside it; what lay in W lies as it lay. -/
structure St (W : World) (O : Nat) (a b u v : Value) (ks ws : List Int) (w : World) : Prop where
  var : w.heap[O]? = some (.cells #[a, b] 26 (0, 0))
  keys : Row 2 W.heap.size w u ks
  ways : Row 35 W.heap.size w v ws
  low : W.heap.size ≤ O
  below : Below W.heap.size W w

section
variable {W w w' : World} {O : Nat} {a b u v : Value} {ks ws : List Int}
theorem St.cell0 (h : St W O a b u v ks ws w) : w.cell? ⟨O, 0, none⟩ = some a := by rw [cell_of_row w O 0 _ _ (0, 0) h.var]; rfl
theorem St.cell1 (h : St W O a b u v ks ws w) : w.cell? ⟨O, 1, none⟩ = some b := by rw [cell_of_row w O 1 _ _ (0, 0) h.var]; rfl
theorem St.free (h : St W O a b u v ks ws w) (j : Nat) : w.frozen? ⟨O, j, none⟩ = false := frozen_of_row w O j _ _ h.var
theorem St.lt (h : St W O a b u v ks ws w) : O < w.heap.size := (Array.getElem?_eq_some_iff.1 h.var).1
theorem St.size (h : St W O a b u v ks ws w) : W.heap.size ≤ w.heap.size := h.below.size
theorem St.next (h : St W O a b u v ks ws w) (hb : Below w.heap.size w w') : St W O a b u v ks ws w' :=
  ⟨(hb.block O h.lt).trans h.var, h.keys.next hb, h.ways.next hb, h.low, h.below.trans (hb.mono h.size)⟩
theorem St.alloc (h : St W O a b u v ks ws w) (o : Obj) : St W O a b u v ks ws (w.alloc o) := h.next (below_new w o)
theorem St.drew (h : St W O a b u v ks ws w) : St W O a b u v ks ws w.drew := h.next (Below.refl _ w).drew
/-- No row of numbers is the variable. -/
theorem St.apartO {el : TypeId} {z : Value} {zs : List Int} {base : Nat} (h : St W O a b u v ks ws w) (hr : Row el base w z zs) (hne : el ≠ 26) : z.ownBlock ≠ some O := by
  rcases hr.block with h0 | ⟨g, cur, e, _, hg⟩
  · rw [h0]; simp
  · rw [e]
    intro e2
    injection e2 with e2
    subst e2
    rw [h.var] at hg
    injection hg with hg
    injection hg with _ ht
    exact hne ht.symm
theorem St.pushK {u' : Value} {ks' : List Int} (h : St W O a b u v ks ws w) (hr : Row 2 W.heap.size w' u' ks') (hg : w.grownBy w' u.ownBlock) : St W O a b u' v ks' ws w' :=
  ⟨(hg.block O h.lt (fun e => h.apartO h.keys (by decide) e.symm)).trans h.var, hr, h.ways.grown hg (h.ways.apart h.keys (by decide)), h.low, h.below.grown hg h.size fun k hk => (World.ownsRow.lt h.keys k hk).1⟩
theorem St.pushR {v' : Value} {ws' : List Int} (h : St W O a b u v ks ws w) (hr : Row 35 W.heap.size w' v' ws') (hg : w.grownBy w' v.ownBlock) : St W O a b u v' ks ws' w' :=
  ⟨(hg.block O h.lt (fun e => h.apartO h.ways (by decide) e.symm)).trans h.var, h.keys.grown hg (h.keys.apart h.ways (by decide)), hr, h.low, h.below.grown hg h.size fun k hk => (World.ownsRow.lt h.ways k hk).1⟩
theorem grown_set (w : World) (p : Addr) (u : Value) : w.grownBy (w.setCell p u) (some p.block) := ⟨rfl, rfl, rfl, by simp, fun k _ hk => heap_setCell_other w p k u (fun e => hk (by rw [e]))⟩
theorem St.set0 (h : St W O a b u v ks ws w) (x : Value) : St W O x b u v ks ws (w.setCell ⟨O, 0, none⟩ x) :=
  ⟨heap_setCell_same w O 0 _ _ x h.var, h.keys.grown (grown_set w _ x) (.inr (h.apartO h.keys (by decide))), h.ways.grown (grown_set w _ x) (.inr (h.apartO h.ways (by decide))), h.low, h.below.setCell (p := ⟨O, 0, none⟩) h.low x⟩
theorem St.set1 (h : St W O a b u v ks ws w) (x : Value) : St W O a x u v ks ws (w.setCell ⟨O, 1, none⟩ x) :=
  ⟨heap_setCell_same w O 1 _ _ x h.var, h.keys.grown (grown_set w _ x) (.inr (h.apartO h.keys (by decide))), h.ways.grown (grown_set w _ x) (.inr (h.apartO h.ways (by decide))), h.low, h.below.setCell (p := ⟨O, 1, none⟩) h.low x⟩
/-- A variable that was made just now, of rows that were there. -/
theorem St.new (hk : Row 2 W.heap.size w u ks) (hw : Row 35 W.heap.size w v ws) (hb : Below W.heap.size W w) {O : Nat} (hO : w.heap.size = O) : St W O u v u v ks ws (w.alloc (.cells #[u, v] 26)) :=
  ⟨h_new hO, hk.alloc _, hw.alloc _, by rw [← hO]; exact hb.size, hb.alloc hb.size _⟩
end

/-- The variable's rows, stored where the result stands. -/
theorem St.end_ {w W W3 : World} {O R : Nat} {a b u v : Value} {ks ws : List Int} (h : St W O a b u v ks ws W3) (hb1 : Below w.heap.size w W) (hR : R < W.heap.size) (hR0 : w.heap.size ≤ R) :
    MadeI w ks ws (.returned (.agg #[u, v])) ((W3.setCell ⟨R, 0, none⟩ u).setCell ⟨R, 1, none⟩ v) :=
  madeI_end1 h.keys h.ways hb1 hR hR0 (hb1.trans (h.below.mono hb1.size))

set_option maxHeartbeats 2000000 in
theorem lawJoin_walk (A B A' B' : Option Addr) (n c m d n' c' m' d' : Nat) (ks ws os vs : List Int) (x : Int) (w : World) (hk : Sl w A n c ks) (hw : Sl w B m d ws) (ho : Sl w A' n' c' os) (hv : Sl w B' m' d' vs) (hn : n ≤ 1000) (hm : m ≤ 1000) (hn' : n' ≤ 1000) (hm' : m' ≤ 1000) :
    Calls Try.prog 29 #[inn A n c B m d, .int .i64 x, inn A' n' c' B' m' d'] w (MadeI w (ks ++ ([x] ++ os)) (ws ++ vs)) := by
  have e1 := hk.len
  have e2 := hw.len
  have e3 := ho.len
  have e4 := hv.len
  have z1 : ws.length + vs.length ≤ 100000 := by omega
  have z2 : ks.length + [x].length ≤ 100000 := by simp; omega
  have z3 : (ks ++ [x]).length + os.length ≤ 100000 := by simp; omega
  clear e1 e2 e3 e4
  go_enter Try.func29, Try.ntmps29
  go_wp2_with fail
  obtain ⟨W0, b, R, hW, hb, hR, hb00, hs00, HN0, HO0, HV0, hR0, l1, l2, l3, l4⟩ := boxed2 w (.slice A n c) (.slice B m d) (.slice A' n' c') (.slice B' m' d')
  rw [hW, hR, hb]
  clear hW hR hb
  refine (copy_walk A B n c m d ks ws W0 (hk.below hb00) (hw.below hb00) hn hm).mono ?_
  rintro e w1 ⟨u, v, rfl, g1, g2, p1⟩
  obtain ⟨F1, N1, f1, rfl⟩ := g1.shape
  obtain ⟨F2, N2, f2, rfl⟩ := g2.shape
  obtain ⟨i2, i3⟩ := HO0.below p1
  have hbW := World.block_lt_of_cell? W0 _ HO0.1
  have s1 : b < w1.heap.size := Nat.lt_of_lt_of_le hbW p1.size
  have st1 := St.new g1 g2 p1 rfl
  have hlow := st1.low
  have o1 : b ≠ w1.heap.size := by omega
  have o2 : w1.heap.size ≠ b := by omega
  have o3 : R ≠ w1.heap.size := by omega
  have o4 : w1.heap.size ≠ R := by omega
  have Ho := ho.below hb00
  have Hv := hv.below hb00
  go_wp2_with (at_builtin; refine pushN rowR (base := W0.heap.size) rfl (.tmp 11) (.tmp 13) rfl _ ws rfl st1.ways B' m' d' vs rfl (Hv.below st1.below) z1 st1.size ?_; intro v2 w2 hr2 hg2; have st2 := st1.pushR hr2 hg2; obtain ⟨F3, N3, f3, rfl⟩ := hr2.shape; have j0 := st2.cell0; have j1 := st2.cell1; have j2 := st2.free 0; have j3 := st2.free 1; clear hg2 hr2)
  obtain ⟨X, hX, st3⟩ : ∃ X : World, w2.setCell ⟨w1.heap.size, 1, none⟩ (.slice F3 N3 f3) = X ∧ St W0 w1.heap.size (.slice F1 N1 f1) (.slice F3 N3 f3) (.slice F1 N1 f1) (.slice F3 N3 f3) ks (ws ++ vs) X := ⟨_, rfl, st2.set1 _⟩
  rw [hX]
  clear hX st2 st1 i2 i3 j0 j1 j2 j3 g1 g2
  obtain ⟨i2, i3⟩ := HO0.below st3.below
  have j0 := st3.cell0
  have j1 := st3.cell1
  have j2 := st3.free 0
  have q0 : b < X.heap.size := World.block_lt_of_cell? X _ i2
  have q1 : w1.heap.size < X.heap.size := st3.lt
  generalize w1.heap.size = O at *
  go_region_law (first
    | (refine step_pushAll rowK (base := W0.heap.size) rfl (.tmp 17) (.tmp 19) rfl _ ks rfl ?_ (some ⟨X.heap.size, 0, none⟩) 1 1 [x] rfl ?_ z2 ?_ ?_
       (· exact (st3.alloc _).drew.keys)
       (· exact sl_one (by simp))
       (· exact (st3.alloc _).drew.size)
       intro u4 w4 hr4 hg4
       obtain ⟨F4, N4, f4, rfl⟩ := hr4.shape
       have st4 := (st3.alloc _).drew.pushK hr4 hg4
       have j0 := st4.cell0
       have j1 := st4.cell1
       obtain ⟨i2, i3⟩ := HO0.below st4.below
       clear hr4 hg4)
    | (refine step_pushAll rowK (base := W0.heap.size) rfl (.tmp 20) (.tmp 22) rfl _ (ks ++ [x]) rfl st4.keys A' n' c' os rfl (Ho.below st4.below) z3 st4.size ?_
       intro u5 w5 hr5 hg5
       obtain ⟨F5, N5, f5, rfl⟩ := hr5.shape
       have st5 := st4.pushK hr5 hg5
       have j0 := st5.cell0
       have j1 := st5.cell1
       have j2 := st5.free 0
       clear hr5 hg5))
  all_goals obtain ⟨Y, hY, st6⟩ : ∃ Y : World, w5.setCell ⟨O, 0, none⟩ (.slice F5 N5 f5) = Y ∧ St W0 O (.slice F5 N5 f5) (.slice F3 N3 f3) (.slice F5 N5 f5) (.slice F3 N3 f3) ((ks ++ [x]) ++ os) (ws ++ vs) Y := ⟨_, rfl, st5.set0 _⟩
  all_goals rw [hY]
  all_goals clear hY st3 st4 st5 j0 j1 j2 i2 i3
  all_goals have k0 := st6.cell0
  all_goals have k1 := st6.cell1
  all_goals obtain ⟨t0, t1, u0, u1⟩ := HV0.below st6.below
  all_goals have hz := st6.end_ hb00 hs00 (by omega)
  all_goals rw [List.append_assoc] at hz
  all_goals have HZ := Lib.hid hz
  all_goals clear hz st6
  all_goals go_wp2
  all_goals refine bodyPost_ret (results_stored rfl rfl t0 t1) rfl ?_
  all_goals exact HZ.out
end Go.Proofs.Ytpbbkfpapmomhaa
