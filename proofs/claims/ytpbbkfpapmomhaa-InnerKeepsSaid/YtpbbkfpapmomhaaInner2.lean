/-
  What inner's Join, Absorb and Merged return: new rows, and nothing that was there has changed.
-/
import Derived.Test.YtpbbkfpapmomhaaInner1
import Derived.Deep.DeepMust
namespace Go.Proofs.Ytpbbkfpapmomhaa
open Go.ChangeShapes Go.WideShapes Go.ChangeAt Go.RowKit
set_option linter.unusedVariables false
set_option linter.unusedSimpArgs false

/-- What a box of one Inner at block b and a result's variable at block R read as. -/
def Box (w : World) (b : Nat) (x y : Value) : Prop := w.cell? ⟨b, 0, none⟩ = some x ∧ w.cell? ⟨b, 1, none⟩ = some y
def Var (w : World) (b : Nat) : Prop := w.cell? ⟨b, 0, none⟩ = some (.slice none 0 0) ∧ w.cell? ⟨b, 1, none⟩ = some (.slice none 0 0) ∧ w.frozen? ⟨b, 0, none⟩ = false ∧ w.frozen? ⟨b, 1, none⟩ = false
theorem Box.below {W w' : World} {b : Nat} {x y : Value} (h : Box W b x y) (hb : Below W.heap.size W w') : Box w' b x y := by
  have hl := World.block_lt_of_cell? W _ h.1
  exact ⟨(hb.cell (p := ⟨b, 0, none⟩) hl).trans h.1, (hb.cell (p := ⟨b, 1, none⟩) hl).trans h.2⟩
theorem Var.below {W w' : World} {b : Nat} (h : Var W b) (hb : Below W.heap.size W w') : Var w' b := by
  have hl := World.block_lt_of_cell? W _ h.1
  exact ⟨(hb.cell (p := ⟨b, 0, none⟩) hl).trans h.1, (hb.cell (p := ⟨b, 1, none⟩) hl).trans h.2.1, (hb.frozen (p := ⟨b, 0, none⟩) hl).trans h.2.2.1, (hb.frozen (p := ⟨b, 1, none⟩) hl).trans h.2.2.2⟩

theorem Box.new (w : World) {b : Nat} (h : w.heap.size = b) (x y : Value) (t : TypeId) : Box (w.alloc (.cells #[x, y] t)) b x y := by subst h; exact ⟨by simp, by simp⟩
theorem Var.new (w : World) {b : Nat} (h : w.heap.size = b) (t : TypeId) : Var (w.alloc (.cells #[.slice none 0 0, .slice none 0 0] t)) b := by subst h; exact ⟨by simp, by simp, by simp, by simp⟩
theorem below_new (w : World) (o : Obj) : Below w.heap.size w (w.alloc o) := (Below.refl _ w).alloc (Nat.le_refl _) o

/-- Cells of blocks that were made just now. -/
theorem c_new {w : World} {cs : Array Value} {t : TypeId} {b j : Nat} {v : Value} (h : w.heap.size = b) (hj : cs[j]? = some v) : (w.alloc (.cells cs t)).cell? ⟨b, j, none⟩ = some v := by
  subst h
  rw [cell_of_row _ _ _ cs t (0, 0) (heap_alloc_new w _)]
  exact hj
theorem c_old {w : World} {o : Obj} {p : Addr} {v : Value} (h : w.cell? p = some v) : (w.alloc o).cell? p = some v := (World.cell?_alloc_lt w o p (World.block_lt_of_cell? w p h)).trans h
theorem c_top {w : World} {cs : Array Value} {t : TypeId} {b j : Nat} {v : Value} (h : w.heap.size = b) (hj : cs[j]? = some v) : (w.alloc (.cells cs t)).drew.cell? ⟨b, j, none⟩ = some v := c_new h hj
theorem c_one {w : World} {cs : Array Value} {t : TypeId} {b j : Nat} {v : Value} {o : Obj} (h : w.heap.size = b) (hj : cs[j]? = some v) : ((w.alloc (.cells cs t)).alloc o).drew.cell? ⟨b, j, none⟩ = some v := c_old (c_new h hj)
theorem c_two {w : World} {cs : Array Value} {t : TypeId} {b j : Nat} {v : Value} {o o' : Obj} (h : w.heap.size = b) (hj : cs[j]? = some v) : (((w.alloc (.cells cs t)).alloc o).alloc o').drew.cell? ⟨b, j, none⟩ = some v := c_old (c_old (c_new h hj))
theorem c_thr {w : World} {cs : Array Value} {t : TypeId} {b j : Nat} {v : Value} {o o' o'' : Obj} (h : w.heap.size = b) (hj : cs[j]? = some v) : ((((w.alloc (.cells cs t)).alloc o).alloc o').alloc o'').drew.cell? ⟨b, j, none⟩ = some v := c_old (c_old (c_old (c_new h hj)))
theorem below_read {W w' : World} {p : Addr} {v : Value} (hb : Below W.heap.size W w') (h : W.cell? p = some v) : w'.cell? p = some v := (hb.cell (World.block_lt_of_cell? W p h)).trans h

/-- The world behind boxes for two receivers and a variable for the result. -/
theorem boxed2 (w : World) (x y x' y' : Value) : ∃ (W : World) (b R : Nat), ((w.alloc (.cells #[x, y] 26)).alloc (.cells #[x', y'] 26)).alloc (.cells #[.slice none 0 0, .slice none 0 0] 26) = W ∧ w.heap.size + 1 = b ∧ w.heap.size + 1 + 1 = R ∧ Below w.heap.size w W ∧ R < W.heap.size ∧
    Box W w.heap.size x y ∧ Box W b x' y' ∧ Var W R ∧ w.heap.size < R ∧ b ≠ R ∧ R ≠ b ∧ w.heap.size ≠ R ∧ R ≠ w.heap.size :=
  ⟨_, _, _, rfl, rfl, rfl, (((Below.refl _ w).alloc (Nat.le_refl _) _).alloc (by simp) _).alloc (by simp; omega) _, by simp, ((Box.new w rfl x y _).below (below_new _ _)).below (below_new _ _), (Box.new _ (by simp) x' y' _).below (below_new _ _), Var.new _ (by simp) _, by omega, by omega, by omega, by omega, by omega⟩
/-- .. for one receiver. -/
theorem boxed1v (w : World) (x y : Value) : ∃ (W : World) (R : Nat), (w.alloc (.cells #[x, y] 26)).alloc (.cells #[.slice none 0 0, .slice none 0 0] 26) = W ∧ w.heap.size + 1 = R ∧ Below w.heap.size w W ∧ R < W.heap.size ∧
    Box W w.heap.size x y ∧ Var W R ∧ w.heap.size < R ∧ w.heap.size ≠ R ∧ R ≠ w.heap.size :=
  ⟨_, _, rfl, rfl, ((Below.refl _ w).alloc (Nat.le_refl _) _).alloc (by simp) _, by simp, (Box.new w rfl x y _).below (below_new _ _), Var.new _ (by simp) _, by omega, by omega, by omega⟩

set_option maxHeartbeats 2000000 in
theorem join_walk (A B A' B' : Option Addr) (n c m d n' c' m' d' : Nat) (ks ws os vs : List Int) (x : Int) (w : World) (hk : Sl w A n c ks) (hw : Sl w B m d ws) (ho : Sl w A' n' c' os) (hv : Sl w B' m' d' vs) (hn : n ≤ 200) (hm : m ≤ 200) (hn' : n' ≤ 200) (hm' : m' ≤ 200) :
    Calls Try.prog 28 #[inn A n c B m d, .int .i64 x, inn A' n' c' B' m' d'] w (MadeI w (ks ++ ([x] ++ os)) (ws ++ vs)) := by
  have hn2 : ks.length + [x].length + os.length ≤ 1000 := by have := hk.len; have := ho.len; simp; omega
  have hm2 : ws.length + vs.length ≤ 1000 := by have := hw.len; have := hv.len; omega
  go_enter Try.func28, Try.ntmps28
  go_wp2
  obtain ⟨W, b, R, hW, hb, hR, hb0, hs0, HN, HO, HV, hR0, l1, l2, l3, l4⟩ := boxed2 w (.slice A n c) (.slice B m d) (.slice A' n' c') (.slice B' m' d')
  rw [hW, hR, hb]
  clear hW hR hb
  obtain ⟨c0, c1⟩ := id HN
  obtain ⟨c2, c3⟩ := id HO
  have Hk := hk.below hb0
  have Hw := hw.below hb0
  have Ho := ho.below hb0
  have Hv := hv.below hb0
  clear hk hw ho hv
  have HF : Hid (∀ w', Below W.heap.size W w' → (w'.cell? ⟨w.heap.size, 0, none⟩ = some (.slice A n c) ∧ w'.cell? ⟨w.heap.size, 1, none⟩ = some (.slice B m d) ∧ w'.cell? ⟨b, 0, none⟩ = some (.slice A' n' c') ∧ w'.cell? ⟨b, 1, none⟩ = some (.slice B' m' d'))) := fun w' h => ⟨(HN.below h).1, (HN.below h).2, (HO.below h).1, (HO.below h).2⟩
  go_region_held3 (fun w' => w'.cell? ⟨w.heap.size, 0, none⟩ = some (.slice A n c) ∧ w'.cell? ⟨w.heap.size, 1, none⟩ = some (.slice B m d) ∧ w'.cell? ⟨b, 0, none⟩ = some (.slice A' n' c') ∧ w'.cell? ⟨b, 1, none⟩ = some (.slice B' m' d')) (first | (refine HF.out _ ?_; go_grown; done) | go_keep) (first
    | (go_at_call 40
       first
       | (refine (concatK3 _ A (some ⟨W.heap.size, 0, none⟩) A' n c 1 1 n' c' ks [x] os _ ?_ ?_ ?_ ?_ ?_ ?_ hn2).mono ?_; (· (first | ((with_reducible refine c_top ?_ ?_); (· simp; done); (· rfl)) | ((with_reducible refine c_one ?_ ?_); (· simp; done); (· rfl)) | ((with_reducible refine c_two ?_ ?_); (· simp; done); (· rfl)) | ((with_reducible refine c_thr ?_ ?_); (· simp; done); (· rfl)))); (· (first | ((with_reducible refine c_top ?_ ?_); (· simp; done); (· rfl)) | ((with_reducible refine c_one ?_ ?_); (· simp; done); (· rfl)) | ((with_reducible refine c_two ?_ ?_); (· simp; done); (· rfl)) | ((with_reducible refine c_thr ?_ ?_); (· simp; done); (· rfl)))); (· (first | ((with_reducible refine c_top ?_ ?_); (· simp; done); (· rfl)) | ((with_reducible refine c_one ?_ ?_); (· simp; done); (· rfl)) | ((with_reducible refine c_two ?_ ?_); (· simp; done); (· rfl)) | ((with_reducible refine c_thr ?_ ?_); (· simp; done); (· rfl)))); (· exact Hk.below (by go_grown)); (· refine sl_one ?_; (first | ((with_reducible refine c_top ?_ ?_); (· simp; done); (· rfl)) | ((with_reducible refine c_one ?_ ?_); (· simp; done); (· rfl)) | ((with_reducible refine c_two ?_ ?_); (· simp; done); (· rfl)) | ((with_reducible refine c_thr ?_ ?_); (· simp; done); (· rfl)))); (· exact Ho.below (by go_grown)))
       | (refine (concatK3 _ A (some ⟨W.heap.size + 1, 0, none⟩) A' n c 1 1 n' c' ks [x] os _ ?_ ?_ ?_ ?_ ?_ ?_ hn2).mono ?_; (· (first | ((with_reducible refine c_top ?_ ?_); (· simp; done); (· rfl)) | ((with_reducible refine c_one ?_ ?_); (· simp; done); (· rfl)) | ((with_reducible refine c_two ?_ ?_); (· simp; done); (· rfl)) | ((with_reducible refine c_thr ?_ ?_); (· simp; done); (· rfl)))); (· (first | ((with_reducible refine c_top ?_ ?_); (· simp; done); (· rfl)) | ((with_reducible refine c_one ?_ ?_); (· simp; done); (· rfl)) | ((with_reducible refine c_two ?_ ?_); (· simp; done); (· rfl)) | ((with_reducible refine c_thr ?_ ?_); (· simp; done); (· rfl)))); (· (first | ((with_reducible refine c_top ?_ ?_); (· simp; done); (· rfl)) | ((with_reducible refine c_one ?_ ?_); (· simp; done); (· rfl)) | ((with_reducible refine c_two ?_ ?_); (· simp; done); (· rfl)) | ((with_reducible refine c_thr ?_ ?_); (· simp; done); (· rfl)))); (· exact Hk.below (by go_grown)); (· refine sl_one ?_; (first | ((with_reducible refine c_top ?_ ?_); (· simp; done); (· rfl)) | ((with_reducible refine c_one ?_ ?_); (· simp; done); (· rfl)) | ((with_reducible refine c_two ?_ ?_); (· simp; done); (· rfl)) | ((with_reducible refine c_thr ?_ ?_); (· simp; done); (· rfl)))); (· exact Ho.below (by go_grown)))
       | (refine (concatK3 _ A (some ⟨W.heap.size + 1 + 1, 0, none⟩) A' n c 1 1 n' c' ks [x] os _ ?_ ?_ ?_ ?_ ?_ ?_ hn2).mono ?_; (· (first | ((with_reducible refine c_top ?_ ?_); (· simp; done); (· rfl)) | ((with_reducible refine c_one ?_ ?_); (· simp; done); (· rfl)) | ((with_reducible refine c_two ?_ ?_); (· simp; done); (· rfl)) | ((with_reducible refine c_thr ?_ ?_); (· simp; done); (· rfl)))); (· (first | ((with_reducible refine c_top ?_ ?_); (· simp; done); (· rfl)) | ((with_reducible refine c_one ?_ ?_); (· simp; done); (· rfl)) | ((with_reducible refine c_two ?_ ?_); (· simp; done); (· rfl)) | ((with_reducible refine c_thr ?_ ?_); (· simp; done); (· rfl)))); (· (first | ((with_reducible refine c_top ?_ ?_); (· simp; done); (· rfl)) | ((with_reducible refine c_one ?_ ?_); (· simp; done); (· rfl)) | ((with_reducible refine c_two ?_ ?_); (· simp; done); (· rfl)) | ((with_reducible refine c_thr ?_ ?_); (· simp; done); (· rfl)))); (· exact Hk.below (by go_grown)); (· refine sl_one ?_; (first | ((with_reducible refine c_top ?_ ?_); (· simp; done); (· rfl)) | ((with_reducible refine c_one ?_ ?_); (· simp; done); (· rfl)) | ((with_reducible refine c_two ?_ ?_); (· simp; done); (· rfl)) | ((with_reducible refine c_thr ?_ ?_); (· simp; done); (· rfl)))); (· exact Ho.below (by go_grown)))
       rintro e w1 ⟨v1, rfl, hr1, hb1⟩; obtain ⟨F1, N1, f1, rfl⟩ := hr1.shape
       have p1 : Below W.heap.size W w1 := Below.trans (by go_grown) (hb1.mono (by simp <;> omega))
       have q1 := p1.size
       obtain ⟨k0, k1⟩ := HN.below p1
       obtain ⟨k2, k3⟩ := HO.below p1
       have g1 := hr1.lower (base' := W.heap.size) (by simp <;> omega)
       have HB1 := Lib.hid hb1
       clear hb1 hr1)
    | (go_at_call 41
       first
       | (refine (concatR2 _ B B' m d m' d' ws vs _ ?_ ?_ ?_ ?_ hm2).mono ?_; (· (first | ((with_reducible refine c_new ?_ ?_); (· simp; done); (· rfl)) | ((with_reducible refine c_old ?_); ((with_reducible refine c_new ?_ ?_); (· simp; done); (· rfl))) | ((with_reducible refine below_read HB1.out ?_); (first | ((with_reducible refine c_top ?_ ?_); (· simp; done); (· rfl)) | ((with_reducible refine c_one ?_ ?_); (· simp; done); (· rfl)) | ((with_reducible refine c_two ?_ ?_); (· simp; done); (· rfl)) | ((with_reducible refine c_thr ?_ ?_); (· simp; done); (· rfl)))) | ((with_reducible refine c_old (below_read HB1.out ?_)); (first | ((with_reducible refine c_top ?_ ?_); (· simp; done); (· rfl)) | ((with_reducible refine c_one ?_ ?_); (· simp; done); (· rfl)) | ((with_reducible refine c_two ?_ ?_); (· simp; done); (· rfl)) | ((with_reducible refine c_thr ?_ ?_); (· simp; done); (· rfl)))) | ((with_reducible refine c_old (c_old (below_read HB1.out ?_))); (first | ((with_reducible refine c_top ?_ ?_); (· simp; done); (· rfl)) | ((with_reducible refine c_one ?_ ?_); (· simp; done); (· rfl)) | ((with_reducible refine c_two ?_ ?_); (· simp; done); (· rfl)) | ((with_reducible refine c_thr ?_ ?_); (· simp; done); (· rfl)))))); (· (first | ((with_reducible refine c_new ?_ ?_); (· simp; done); (· rfl)) | ((with_reducible refine c_old ?_); ((with_reducible refine c_new ?_ ?_); (· simp; done); (· rfl))) | ((with_reducible refine below_read HB1.out ?_); (first | ((with_reducible refine c_top ?_ ?_); (· simp; done); (· rfl)) | ((with_reducible refine c_one ?_ ?_); (· simp; done); (· rfl)) | ((with_reducible refine c_two ?_ ?_); (· simp; done); (· rfl)) | ((with_reducible refine c_thr ?_ ?_); (· simp; done); (· rfl)))) | ((with_reducible refine c_old (below_read HB1.out ?_)); (first | ((with_reducible refine c_top ?_ ?_); (· simp; done); (· rfl)) | ((with_reducible refine c_one ?_ ?_); (· simp; done); (· rfl)) | ((with_reducible refine c_two ?_ ?_); (· simp; done); (· rfl)) | ((with_reducible refine c_thr ?_ ?_); (· simp; done); (· rfl)))) | ((with_reducible refine c_old (c_old (below_read HB1.out ?_))); (first | ((with_reducible refine c_top ?_ ?_); (· simp; done); (· rfl)) | ((with_reducible refine c_one ?_ ?_); (· simp; done); (· rfl)) | ((with_reducible refine c_two ?_ ?_); (· simp; done); (· rfl)) | ((with_reducible refine c_thr ?_ ?_); (· simp; done); (· rfl)))))); (· exact (Hw.below p1).below (by go_grown)); (· exact (Hv.below p1).below (by go_grown)))
       rintro e w2 ⟨v2, rfl, hr2, hb2⟩; obtain ⟨F2, N2, f2, rfl⟩ := hr2.shape
       have p12 : Below w1.heap.size w1 w2 := Below.trans (by go_grown) (hb2.mono (by simp <;> omega))
       have p2 := p1.trans (p12.mono p1.size)
       obtain ⟨k0, k1⟩ := HN.below p2
       obtain ⟨k2, k3⟩ := HO.below p2
       obtain ⟨t0, t1, u0, u1⟩ := HV.below p2
       have g2 := hr2.lower (base' := W.heap.size) (by have := p1.size; simp <;> omega)
       clear hb2 hr2))
  all_goals go_wp2
  all_goals ((try simp only [Exit.inBlock, Exit.then]); refine bodyPost_ret (results_stored rfl rfl t0 t1) rfl ?_)
  all_goals exact madeI_end g1 hb0 hs0 (by omega) g2 p12 p1

end Go.Proofs.Ytpbbkfpapmomhaa
