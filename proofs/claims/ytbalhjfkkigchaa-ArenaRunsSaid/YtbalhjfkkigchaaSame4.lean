/-
  What the laws' Same (of equal pairs, of equal Inners) and Copy return. None changes what was there.
-/
import Derived.Test.YtbalhjfkkigchaaConcat4
import Derived.Deep.RegionLaw
namespace Go.Proofs.Ytbalhjfkkigchaa
open Go.ChangeShapes Go.WideShapes Go.ChangeAt Go.RowKit
set_option linter.unusedVariables false
set_option linter.unusedSimpArgs false
set_option maxRecDepth 20000

/-- An Inner as a value. -/
abbrev inn (A : Option Addr) (n c : Nat) (B : Option Addr) (m d : Nat) : Value := .agg #[.slice A n c, .slice B m d]

/-- What a call that makes an Inner gives: its keys' row and its ways' row, and nothing that was there has changed. -/
def MadeI (w : World) (ks ws : List Int) (e : Ending) (w' : World) : Prop :=
  ∃ u v, e = .returned (.agg #[u, v]) ∧ Row 2 w.heap.size w' u ks ∧ Row 46 w.heap.size w' v ws ∧ Below w.heap.size w w'

/-- A result that lies in a variable of two cells. -/
theorem load_inn {w : World} {R : Nat} {x y : Value} (e0 : w.cell? ⟨R, 0, none⟩ = some x) (e1 : w.cell? ⟨R, 1, none⟩ = some y) :
    (loadVar 53 ⟨R, 0, none⟩).run Try.prog w = .ok (.agg #[x, y]) w := by
  simp [go_sem, e0, e1]
theorem results_inn {fn : Func} {t : Tmp} {R : Nat} {x y : Value} {tmps : Array Value} {w : World} (h : fn.results = #[.cell t 53]) (ht : tmps.getD t undef = .pointer (some ⟨R, 0, none⟩))
    (e0 : w.cell? ⟨R, 0, none⟩ = some x) (e1 : w.cell? ⟨R, 1, none⟩ = some y) : (results fn tmps).run Try.prog w = .ok (.agg #[x, y]) w := by
  have := load_inn e0 e1
  have ht' : tmps[t]?.getD undef = .pointer (some ⟨R, 0, none⟩) := by simpa using ht
  simp [results, h, ht', asAddr, this]

/-- .. behind a store into it. -/
theorem results_stored {fn : Func} {t : Tmp} {R : Nat} {x y a b : Value} {tmps : Array Value} {w : World} (h : fn.results = #[.cell t 53]) (ht : tmps.getD t undef = .pointer (some ⟨R, 0, none⟩))
    (e0 : w.cell? ⟨R, 0, none⟩ = some a) (e1 : w.cell? ⟨R, 1, none⟩ = some b) : (results fn tmps).run Try.prog ((w.setCell ⟨R, 0, none⟩ x).setCell ⟨R, 1, none⟩ y) = .ok (.agg #[x, y]) ((w.setCell ⟨R, 0, none⟩ x).setCell ⟨R, 1, none⟩ y) :=
  results_inn h ht ((World.cell?_setCell_other _ _ _ _ (by simp)).trans (World.cell?_setCell_same _ _ _ e0)) (World.cell?_setCell_same _ _ _ ((World.cell?_setCell_other _ _ _ _ (by simp)).trans e1))

/-- What a box of one Inner at block b and a result's variable at block R read as. -/
def Box (w : World) (b : Nat) (x y : Value) : Prop := w.cell? ⟨b, 0, none⟩ = some x ∧ w.cell? ⟨b, 1, none⟩ = some y
def Var (w : World) (b : Nat) : Prop := w.cell? ⟨b, 0, none⟩ = some (.slice none 0 0) ∧ w.cell? ⟨b, 1, none⟩ = some (.slice none 0 0) ∧ w.frozen? ⟨b, 0, none⟩ = false ∧ w.frozen? ⟨b, 1, none⟩ = false
theorem Box.below {W w' : World} {b : Nat} {x y : Value} (h : Box W b x y) (hb : Below W.heap.size W w') : Box w' b x y := by
  have hl := World.block_lt_of_cell? W _ h.1
  exact ⟨(hb.cell (p := ⟨b, 0, none⟩) hl).trans h.1, (hb.cell (p := ⟨b, 1, none⟩) hl).trans h.2⟩
theorem Var.below {W w' : World} {b : Nat} (h : Var W b) (hb : Below W.heap.size W w') : Var w' b := by
  have hl := World.block_lt_of_cell? W _ h.1
  exact ⟨(hb.cell (p := ⟨b, 0, none⟩) hl).trans h.1, (hb.cell (p := ⟨b, 1, none⟩) hl).trans h.2.1, (hb.frozen (p := ⟨b, 0, none⟩) hl).trans h.2.2.1, (hb.frozen (p := ⟨b, 1, none⟩) hl).trans h.2.2.2⟩

theorem Box.new (w : World) {b : Nat} (h : w.heap.size = b) (x y : Value) (t : TypeId) : Box (w.alloc (.cells #[x, y] t)) b x y := by subst h; exact ⟨by simp, by simp⟩
theorem Var.new (w : World) {b : Nat} (h : w.heap.size = b) (t : TypeId) : Var (w.alloc (.cells #[.slice none 0 0, .slice none 0 0] t)) b := by subst h; exact ⟨by simp, by simp, by simp, by simp⟩
/-- .. for one receiver. -/
theorem boxed1v (w : World) (x y : Value) : ∃ (W : World) (R : Nat), (w.alloc (.cells #[x, y] 53)).alloc (.cells #[.slice none 0 0, .slice none 0 0] 53) = W ∧ w.heap.size + 1 = R ∧ Below w.heap.size w W ∧ R < W.heap.size ∧
    Box W w.heap.size x y ∧ Var W R ∧ w.heap.size < R ∧ w.heap.size ≠ R ∧ R ≠ w.heap.size :=
  ⟨_, _, rfl, rfl, ((Below.refl _ w).alloc (Nat.le_refl _) _).alloc (by simp) _, by simp, (Box.new w rfl x y _).below (below_new _ _), Var.new _ (by simp) _, by omega, by omega, by omega⟩

theorem madeI_end1 {w W W3 : World} {u v : Value} {ks ws : List Int} {R : Nat} (h1 : Row 2 W.heap.size W3 u ks) (h2 : Row 46 W.heap.size W3 v ws) (hb1 : Below w.heap.size w W) (hR : R < W.heap.size) (hR0 : w.heap.size ≤ R) (hb : Below w.heap.size w W3) :
    MadeI w ks ws (.returned (.agg #[u, v])) ((W3.setCell ⟨R, 0, none⟩ u).setCell ⟨R, 1, none⟩ v) :=
  ⟨u, v, rfl, ((h1.set_below hR _).set_below hR _).lower hb1.size, ((h2.set_below hR _).set_below hR _).lower hb1.size,
    (hb.setCell (p := ⟨R, 0, none⟩) hR0 u).setCell (p := ⟨R, 1, none⟩) hR0 v⟩

set_option maxHeartbeats 1000000 in
theorem samePairs_walk (A B : Option Addr) (n c d : Nat) (l : List (Int × Int)) (w : World) (h : Lf w A n l) (h' : Lf w B n l) (hn : n ≤ 100000) :
    Calls Try.prog 38 #[.slice A n c, .slice B n d] w fun e w' => e = .returned (.bool true) ∧ Below w.heap.size w w' := by
  go_enter Try.func38, Try.ntmps38
  go_wp2
  go_loopw [13] (fun i wr => ∃ k : Nat, k ≤ n ∧ i = .int .i64 k ∧ Below w.heap.size w wr) (fun i _ => n - (intOf i).toNat)
  case atStart => exact ⟨0, Nat.zero_le _, rfl, Below.refl _ _⟩
  case round =>
    obtain ⟨k, hk, rfl, hb⟩ := hrel
    by_cases hlt : k < n
    · have hll : k < l.length := by rw [← h.len]; exact hlt
      obtain ⟨b, off, rfl, hbl, c1, c2⟩ := h.at_ hll
      obtain ⟨b', off', rfl, hbl', c1', c2'⟩ := h'.at_ hll
      have d1 := (hb.cell (p := ⟨b, off + k * 2, none⟩) hbl).trans c1
      have d2 := (hb.cell (p := ⟨b, off + k * 2 + 1, none⟩) hbl).trans c2
      have d1' := (hb.cell (p := ⟨b', off' + k * 2, none⟩) hbl').trans c1'
      have d2' := (hb.cell (p := ⟨b', off' + k * 2 + 1, none⟩) hbl').trans c2'
      have hk0 : (0 : Int) ≤ (k : Int) := by omega
      have hk1 : (k : Int) < (n : Int) := by omega
      clear h h' c1 c2 c1' c2'
      generalize l[k] = p at *
      go_wp2
      go_quiet (fail)
      go_wp2
      go_roundw
      case rel => exact ⟨k + 1, by omega, by go_num, below_drewN hb _⟩
      case measure => simp [intOf]; omega
    · go_wp2
      go_ret
      exact ⟨rfl, hb⟩

theorem boxedS (w : World) (x y x' y' : Value) : ∃ (W : World) (b : Nat), (w.alloc (.cells #[x, y] 53)).alloc (.cells #[x', y'] 53) = W ∧ w.heap.size + 1 = b ∧ Below w.heap.size w W ∧ Box W w.heap.size x y ∧ Box W b x' y' :=
  ⟨_, _, rfl, rfl, ((Below.refl _ w).alloc (Nat.le_refl _) _).alloc (by simp) _, (Box.new w rfl x y _).below (below_new _ _), Box.new _ (by simp) x' y' _⟩

set_option maxHeartbeats 1000000 in
theorem lawSame_walk (A B A' B' : Option Addr) (n c m d c' d' : Nat) (ks ws : List Int) (w : World) (h1 : Sl w A n c ks) (h2 : Sl w B m d ws) (h3 : Sl w A' n c' ks) (h4 : Sl w B' m d' ws) (hn : n ≤ 1000) (hm : m ≤ 1000) :
    Calls Try.prog 39 #[inn A n c B m d, inn A' n c' B' m d'] w fun e w' => e = .returned (.bool true) ∧ Below w.heap.size w w' := by
  go_enter Try.func39, Try.ntmps39
  go_wp2
  obtain ⟨W, b, hW, hb, hb0, HN, HO⟩ := boxedS w (.slice A n c) (.slice B m d) (.slice A' n c') (.slice B' m d')
  rw [hW, hb]
  clear hW hb
  obtain ⟨c0, c1⟩ := id HN
  obtain ⟨c2, c3⟩ := id HO
  have i1 := h1.below hb0
  have i2 := h2.below hb0
  have i3 := h3.below hb0
  have i4 := h4.below hb0
  clear h1 h2 h3 h4
  go_loopw [26] (fun i wr => ∃ k q : Nat, k ≤ n ∧ i = .int .i64 k ∧ wr = W.drewN q) (fun i _ => n - (intOf i).toNat)
  case atStart => exact ⟨0, 0, Nat.zero_le _, rfl, rfl⟩
  case round =>
    obtain ⟨k, q, hk, rfl, rfl⟩ := hrel
    by_cases hlt : k < n
    · have hll : k < ks.length := by rw [← i1.len]; exact hlt
      obtain ⟨g, off, rfl, hbl, d1⟩ := i1.at_ hll
      obtain ⟨g', off', rfl, hbl', d2⟩ := i3.at_ hll
      have hk0 : (0 : Int) ≤ (k : Int) := by omega
      have hk1 : (k : Int) < (n : Int) := by omega
      clear i1 i2 i3 i4 HN HO
      generalize ks[k] = z at *
      go_wp2
      go_quiet (fail)
      go_wp2
      go_roundw
      case rel => exact ⟨k + 1, _, by omega, by go_num, rfl⟩
      case measure => simp [intOf]; omega
    · go_wp2
      go_loopw [44] (fun i wr => ∃ k q : Nat, k ≤ m ∧ i = .int .i64 k ∧ wr = W.drewN q) (fun i _ => m - (intOf i).toNat)
      case atStart => exact ⟨0, q, Nat.zero_le _, rfl, rfl⟩
      case round =>
        clear hk hlt
        obtain ⟨k, q, hk, rfl, rfl⟩ := hrel
        by_cases hlt : k < m
        · have hll : k < ws.length := by rw [← i2.len]; exact hlt
          obtain ⟨g, off, rfl, hbl, d1⟩ := i2.at_ hll
          obtain ⟨g', off', rfl, hbl', d2⟩ := i4.at_ hll
          have hk0 : (0 : Int) ≤ (k : Int) := by omega
          have hk1 : (k : Int) < (m : Int) := by omega
          clear i1 i2 i3 i4 HN HO
          generalize ws[k] = z at *
          go_wp2
          go_quiet (fail)
          go_wp2
          go_roundw
          case rel => exact ⟨k + 1, _, by omega, by go_num, rfl⟩
          case measure => simp [intOf]; omega
        · go_wp2
          go_ret
          exact ⟨rfl, below_drewN hb0 _⟩

set_option maxHeartbeats 2000000 in
theorem copy_walk (A B : Option Addr) (n c m d : Nat) (ks ws : List Int) (w : World) (hk : Sl w A n c ks) (hw : Sl w B m d ws) (hn : n ≤ 1000) (hm : m ≤ 1000) :
    Calls Try.prog 46 #[inn A n c B m d] w (MadeI w ks ws) := by
  have hn2 : ([] : List Int).length + ks.length ≤ 100000 := by have := hk.len; simp; omega
  have hm2 : ([] : List Int).length + ws.length ≤ 100000 := by have := hw.len; simp; omega
  go_enter Try.func46, Try.ntmps46
  go_wp2
  obtain ⟨W, R, hW, hR, hb0, hs0, HN, HV, hR0, l3, l4⟩ := boxed1v w (.slice A n c) (.slice B m d)
  rw [hW, hR]
  clear hW hR
  obtain ⟨c0, c1⟩ := id HN
  have Hk := hk.below hb0
  have Hw := hw.below hb0
  clear hk hw
  have HF : Hid (∀ w', Below W.heap.size W w' → (w'.cell? ⟨w.heap.size, 0, none⟩ = some (.slice A n c) ∧ w'.cell? ⟨w.heap.size, 1, none⟩ = some (.slice B m d))) := fun w' h => ⟨(HN.below h).1, (HN.below h).2⟩
  go_region_held3 (fun w' => w'.cell? ⟨w.heap.size, 0, none⟩ = some (.slice A n c) ∧ w'.cell? ⟨w.heap.size, 1, none⟩ = some (.slice B m d)) (first | (refine HF.out _ ?_; go_grown; done) | go_keep) (first
    | (refine step_pushB rowR (base := W.heap.size) rfl (.tmp 7) (.tmp 9) rfl _ [] rfl ?_ B m d ws rfl ?_ hm2 ?_ ?_
       (· first | (refine HK1.out _ _ _ _ (by decide) (Row.of_block ?_ ?_); (· (first | exact h_newd (by simp) | exact h_oldd (h_new (by simp)))); (· go_size)) | (refine Row.of_block (h_new rfl) ?_; go_size))
       (· exact Hw.below (by go_grown))
       (· go_size)
       intro v2 w2 g2 hb2 hk2
       obtain ⟨F2, N2, f2, rfl⟩ := g2.shape
       have p2 : Below W.heap.size W w2 := Below.trans (by go_grown) hb2
       have q2 := p2.size
       have g1 : Row 2 W.heap.size w2 (.slice F1 N1 f1) ([] ++ ks) := by first | exact hk2 _ _ _ _ (by decide) HR1.out | exact hk2 _ _ _ _ (by decide) (HR1.out.alloc _)
       obtain ⟨t0, t1, u0, u1⟩ := HV.below p2
       clear hk2 hb2 HK1 HR1)
    | (refine step_pushB rowK (base := W.heap.size) rfl (.tmp 3) (.tmp 5) rfl _ [] rfl ?_ A n c ks rfl ?_ hn2 ?_ ?_
       (· first | (refine HK1.out _ _ _ _ (by decide) (Row.of_block ?_ ?_); (· (first | exact h_newd (by simp) | exact h_oldd (h_new (by simp)))); (· go_size)) | (refine Row.of_block (h_new rfl) ?_; go_size))
       (· exact Hk.below (by go_grown))
       (· go_size)
       intro v1 w1 g1 hb1 hk1
       obtain ⟨F1, N1, f1, rfl⟩ := g1.shape
       have p2 : Below W.heap.size W w1 := Below.trans (by go_grown) hb1
       have q2 := p2.size
       have g2 : Row 46 W.heap.size w1 (.slice F2 N2 f2) ([] ++ ws) := by first | exact hk1 _ _ _ _ (by decide) HR1.out | exact hk1 _ _ _ _ (by decide) (HR1.out.alloc _)
       obtain ⟨t0, t1, u0, u1⟩ := HV.below p2
       clear hk1 hb1 HK1 HR1)
    | (refine step_pushB rowK (base := W.heap.size) rfl (.tmp 3) (.tmp 5) rfl _ [] rfl ?_ A n c ks rfl ?_ hn2 ?_ ?_
       (· refine Row.of_block ?_ ?_; (· (first | exact h_newd (by simp) | exact h_oldd (h_new (by simp)))); (· go_size))
       (· exact Hk.below (by go_grown))
       (· go_size)
       intro v1 w1 hr1 hb1 hk1
       obtain ⟨F1, N1, f1, rfl⟩ := hr1.shape
       have p1 : Below W.heap.size W w1 := Below.trans (by go_grown) hb1
       have q1 := p1.size
       have HK1 := Lib.hid hk1
       have HR1 := Lib.hid hr1
       clear hk1 hb1 hr1)
    | (refine step_pushB rowR (base := W.heap.size) rfl (.tmp 7) (.tmp 9) rfl _ [] rfl ?_ B m d ws rfl ?_ hm2 ?_ ?_
       (· refine Row.of_block ?_ ?_; (· (first | exact h_newd (by simp) | exact h_oldd (h_new (by simp)))); (· go_size))
       (· exact Hw.below (by go_grown))
       (· go_size)
       intro v2 w2 hr2 hb2 hk2
       obtain ⟨F2, N2, f2, rfl⟩ := hr2.shape
       have p1 : Below W.heap.size W w2 := Below.trans (by go_grown) hb2
       have q1 := p1.size
       have HK1 := Lib.hid hk2
       have HR1 := Lib.hid hr2
       clear hk2 hb2 hr2)
    )
  all_goals go_wp2
  all_goals ((try simp only [Exit.inBlock, Exit.then]); refine bodyPost_ret (results_stored rfl rfl t0 t1) rfl ?_)
  all_goals exact madeI_end1 (by simpa using g1) (by simpa using g2) hb0 hs0 (by omega) (hb0.trans (p2.mono hb0.size))

end Go.Proofs.Ytbalhjfkkigchaa
