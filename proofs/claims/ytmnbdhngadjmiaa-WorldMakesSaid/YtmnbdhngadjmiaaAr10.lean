/-
  What arena's Alloc returns.
-/
import Derived.Test.YtmnbdhngadjmiaaAr9
namespace Go.Proofs.Ytmnbdhngadjmiaa
open Go.ChangeShapes Go.WideShapes Go.ChangeAt Go.RowKit
set_option linter.unusedVariables false
set_option linter.unusedSimpArgs false
set_option maxRecDepth 20000

/-- The place that comes next. -/
def As.next (S : As) : Nat × As :=
  match S.fr with
  | i :: fr => (i, { S with fr := fr })
  | [] => (S.pls.length, { S with pls := S.pls ++ [Pa.nil] })
/-- A node is put there. -/
def As.alloc (S : As) (k : Nat) (nd : Nd) : As := { S.next.2 with pls := S.next.2.pls.set S.next.1 ⟨true, k, nd, nd.zs, 0, false⟩ }

theorem Sl.keepAt {w w' : World} {A : Option Addr} {n c : Nat} {zs : List Int} (h : Sl w A n c zs) (hk : ∀ ad : Addr, A = some ad → ad.block < w.heap.size → w'.heap[ad.block]? = w.heap[ad.block]?) : Sl w' A n c zs := by
  refine ⟨h.len, h.cap, h.none_, ?_⟩
  rcases h.cells with hn | ⟨b, off, rfl, hc⟩
  · exact .inl hn
  · refine .inr ⟨b, off, rfl, fun j u hu => ?_⟩
    have := hc j u hu
    exact (World.cell?_of_block (w := w) (a := ⟨b, off + j, none⟩) (hk ⟨b, off, none⟩ rfl (show b < w.heap.size from World.block_lt_of_cell? w ⟨b, off + j, none⟩ this))).trans this
theorem Lp.keepAt {w w' : World} {A : Option Addr} {n c : Nat} {l : List (Int × Int)} (h : Lp w A n c l) (hk : ∀ ad : Addr, A = some ad → ad.block < w.heap.size → w'.heap[ad.block]? = w.heap[ad.block]?) : Lp w' A n c l := by
  refine ⟨⟨h.lf.1, ?_⟩, h.cap, h.none_⟩
  rcases h.lf.2 with hn | ⟨b, off, rfl, hc⟩
  · exact .inl hn
  · refine .inr ⟨b, off, rfl, fun j u hu => ?_⟩
    have := hc j u hu
    exact (World.cell?_of_block (w := w) (a := ⟨b, off + j, none⟩) (hk ⟨b, off, none⟩ rfl (show b < w.heap.size from World.block_lt_of_cell? w ⟨b, off + j, none⟩ this))).trans this

section
variable {F : Nat → Prop} {w : World} {a : Nat} {S : As} {l : List (Pa × Vs)} {P Q : Value}
theorem next_walk (h : Ar false F w a S l P Q) (hl : l.length ≤ 70000) :
    Calls Try.prog 64 #[ptr a] w fun e w' => e = .returned (.int .i64 (S.next.1 : Int)) ∧ (∃ F' l' P' Q', Ar false F' w' a S.next.2 l' P' Q' ∧ ∀ b, F' b → F b ∨ w.heap.size ≤ b) ∧ Only F w w' := by
  unfold As.next
  have hp := h.lenP
  cases hf : S.fr with
  | nil =>
    refine (next_new h hf hl).mono ?_
    rintro e w' ⟨rfl, ⟨F', P', h1, h2⟩, h3⟩
    rw [hf] at h1
    exact ⟨by rw [hp], ⟨_, _, _, _, h1, h2⟩, h3⟩
  | cons i fr =>
    refine (next_old h i fr hf).mono ?_
    rintro e w' ⟨rfl, ⟨Q', h1⟩, h3⟩
    exact ⟨rfl, ⟨_, _, _, _, h1, fun _ hb => .inl hb⟩, h3⟩

/-- A place, written with a node's new rows. -/
theorem alloc_end {X Y : World} {g c i B4 : Nat} {p : Pa} {v : Vs} {F1 : Nat → Prop} {pv kv zv wv : Value} {ps : List (Int × Int)} {ks zs : List Int} (h : Ar false F1 X a S l (.slice (some ⟨g, 0, none⟩) l.length c) Q) (hx : l[i]? = some (p, v)) (hb : Below X.heap.size X Y)
    (r1 : Prs X.heap.size Y pv ps) (r2 : Row 2 X.heap.size Y kv ks) (r3 : Row 30 X.heap.size Y zv zs) (r4 : Row 30 B4 Y wv zs) (hB4 : X.heap.size ≤ B4) (hfar : ∀ b, zv.ownBlock = some b → b < B4)
    (hps : ps.length ≤ 100) (hks : ks.length ≤ 100) (hzs : zs.length ≤ 100) (x y : Bool) (k : Nat) :
    ∃ W : World, ((((((((((Y.setCell ⟨g, i * 10, none⟩ (.bool true)).setCell ⟨g, i * 10 + 1, none⟩ (.int .u32 ((k : Int) + 1))).setCell ⟨g, i * 10 + 2, none⟩ (.bool x)).setCell ⟨g, i * 10 + 3, none⟩ (.bool y)).setCell ⟨g, i * 10 + 4, none⟩ pv).setCell ⟨g, i * 10 + 5, none⟩ kv).setCell ⟨g, i * 10 + 6, none⟩ zv).setCell ⟨g, i * 10 + 7, none⟩ wv).setCell ⟨g, i * 10 + 8, none⟩ (.int .i64 0)).setCell ⟨g, i * 10 + 9, none⟩ (.bool false)) = W ∧
      Ar false (fun b => F1 b ∨ (Vs.mk pv kv zv wv).at b) W a { S with pls := S.pls.set i ⟨true, k + 1, ⟨x, y, ps, ks, zs⟩, zs, 0, false⟩ } (l.set i (⟨true, k + 1, ⟨x, y, ps, ks, zs⟩, zs, 0, false⟩, ⟨pv, kv, zv, wv⟩)) (.slice (some ⟨g, 0, none⟩) l.length c) Q ∧ Only F1 X W ∧ ∀ b, (F1 b ∨ (Vs.mk pv kv zv wv).at b) → F1 b ∨ X.heap.size ≤ b := by
  have hY := h.below hb
  have hg := grown_ten Y g (i * 10) (.bool true) (.int .u32 ((k : Int) + 1)) (.bool x) (.bool y) pv kv zv wv (.int .i64 0) (.bool false)
  have hr := own_ten (y := ((⟨true, k + 1, ⟨x, y, ps, ks, zs⟩, zs, 0, false⟩ : Pa), (⟨pv, kv, zv, wv⟩ : Vs))) hY.row hx (.bool true) (.int .u32 ((k : Int) + 1)) (.bool x) (.bool y) pv kv zv wv (.int .i64 0) (.bool false) (by simp [cellsOf])
  have q4 := World.ownsRow.lt r4
  have q3 := World.ownsRow.lt r3
  have hnew : ∀ b, (Vs.mk pv kv zv wv).at b → X.heap.size ≤ b ∧ b < Y.heap.size := by
    rintro b (e | e | e | e)
    · exact World.ownsRow.lt r1 b e
    · exact World.ownsRow.lt r2 b e
    · exact q3 b e
    · have := q4 b e; omega
  refine ⟨_, rfl, ?_, (Only.of_below F1 hb).then (Only.grown F1 hg fun b e => by injection e with e; subst e; exact h.frow g rfl), fun b e => e.imp id fun e => (hnew b e).1⟩
  refine hY.setPl hx hr hg (fun _ hb => .inl hb) (fun b e => e.elim (hY.lt b) fun e => (hnew b e).2) ⟨r1.lower (Nat.zero_le _), r2.lower (Nat.zero_le _), r3.lower (Nat.zero_le _), r4.lower (Nat.zero_le _), fun b e => .inr e, ⟨hps, hks, hzs⟩, hzs⟩ (fun b e => .inr ⟨fun hF => ?_, fun e2 => ?_⟩) (fun b e => .inr fun hF => ?_)
  · have := (q4 b e).1; have := h.lt b hF; omega
  · have := (q4 b e).1; have := hfar b e2; omega
  · have := (q3 b e).1; have := h.lt b hF; omega

theorem alloc_read {Z : World} {F1 : Nat → Prop} {l2 : List (Pa × Vs)} {g c i L : Nat} {y : Pa} {v : Vs} (h : Ar false F1 Z a S (l2.set i (y, v)) (.slice (some ⟨g, 0, none⟩) L c) Q) (hil : i < l2.length) : Z.cell? ⟨g, i * 10 + 1, none⟩ = some (.int .u32 (y.cnt : Int)) := by
  obtain ⟨g9, c9, hP9, _, _, _, _, q1, _⟩ := h.cells0 (i := i) (by rw [List.getElem?_set_self hil])
  injection hP9 with hP9
  injection hP9 with hP9
  injection hP9 with hP9
  subst hP9
  exact q1

/-- The world behind a box for the node. -/
theorem boxedA (w : World) (x y : Bool) (pv kv zv : Value) : ∃ (W : World) (b : Nat), w.alloc (.cells #[.bool x, .bool y, pv, kv, zv] 42) = W ∧ w.heap.size = b ∧ Below w.heap.size w W ∧ Five W b x y pv kv zv :=
  ⟨_, _, rfl, rfl, below_new _ _, Five.new _ rfl _ _ _ _ _⟩

set_option maxHeartbeats 1000000 in
theorem alloc_full (h : Ar false F w a S l P Q) (hok : Ok S) (hno : (S.most : Int) ≤ (S.pls.length : Int) - (S.fr.length : Int)) (x y : Bool) (pv kv zv : Value) :
    Calls Try.prog 29 #[ptr a, ndv x y pv kv zv] w fun e w' => e = .returned (.tuple #[.int .i64 0, .bool false]) ∧ Below w.heap.size w w' := by
  obtain ⟨W, b0, hW, hb0, hbW, h5⟩ := boxedA w x y pv kv zv
  have hA := Lib.hid (h.below hbW)
  obtain ⟨c0, c1, c2, c3⟩ := hA.out.head0
  have HF : Hid (∀ w', Below W.heap.size W w' → w'.cell? ⟨a, 0, none⟩ = some (.int .i64 (S.most : Int))) := fun w' h => below_read h c0
  clear h
  have hl1 := hok.len
  have hl2 := hok.fr
  generalize hp : S.pls.length = np at *
  generalize hq : S.fr.length = nq at *
  have HP := Lib.hid hp
  have HQ := Lib.hid hq
  clear hp hq
  go_enter Try.func29, Try.ntmps29
  go_wp2_with fail
  (try rw [hW]); (try rw [hb0]); clear hW hb0
  go_region_held3 (fun w' => w'.cell? ⟨a, 0, none⟩ = some (.int .i64 (S.most : Int))) (first | (refine HF.out _ ?_; go_grown; done) | go_keep) (first
    | (go_at_call 15; refine (used_walk (hA.out.below (by go_grown)) ?_ ?_).mono ?_; (· rw [HP.out]; omega); (· rw [HQ.out]; omega); rintro e w1 ⟨rfl, hb1⟩; rw [HP.out, HQ.out]
       have p1 : Below W.heap.size W w1 := Below.trans (by go_grown) (hb1.mono (by simp <;> omega))
       have q1 := p1.size
       clear hb1))
  all_goals go_wp2
  all_goals go_ret2
  all_goals exact ⟨rfl, hbW.trans (Below.mono (by first | exact p1 | exact p1.drew | exact below_drewN p1 _) hbW.size)⟩

set_option maxHeartbeats 8000000 in
theorem alloc_walk (h : Ar false F w a S l P Q) (hok : Ok S) (hroom : (S.pls.length : Int) - (S.fr.length : Int) < (S.most : Int)) (k : Nat) (hk : ∃ pa, S.next.2.pls[S.next.1]? = some pa ∧ pa.cnt = k) (hkb : k ≤ 1000000)
    (x y : Bool) (A B C : Option Addr) (n c m d p q : Nat) (ps : List (Int × Int)) (ks zs : List Int) (hp : Lp w A n c ps) (hkk : Sl w B m d ks) (hzz : Sl w C p q zs) (hps : ps.length ≤ 100) (hks : ks.length ≤ 100) (hzs : zs.length ≤ 100) (hnF : ∀ ad : Addr, A = some ad ∨ B = some ad ∨ C = some ad → ¬ F ad.block) :
    Calls Try.prog 29 #[ptr a, ndv x y (.slice A n c) (.slice B m d) (.slice C p q)] w fun e w' => e = .returned (.tuple #[.int .i64 (mk S.next.1 ((k + 1 : Nat) : Int)), .bool true]) ∧ Nx false F w a (S.alloc (k + 1) ⟨x, y, ps, ks, zs⟩) w' := by
  obtain ⟨W, b0, hW, hb0, hbW, h5⟩ := boxedA w x y (.slice A n c) (.slice B m d) (.slice C p q)
  have hA := Lib.hid (h.below hbW)
  have hlA := h.lenP
  obtain ⟨c0, c1, c2, c3⟩ := hA.out.head0
  have HF : Hid (∀ w', Below W.heap.size W w' → w'.cell? ⟨a, 0, none⟩ = some (.int .i64 (S.most : Int))) := fun w' h => below_read h c0
  have Hp := Lib.hid hp
  have Hk := Lib.hid hkk
  have Hz := Lib.hid hzz
  have HL : Hid (∀ b, F b → b < w.heap.size) := h.lt
  have HNF := Lib.hid hnF
  clear h hp hkk hzz hnF
  have hl1 := hok.len
  have hl2 := hok.fr
  have hl3 : l.length ≤ 70000 := by omega
  generalize hp : S.pls.length = np at *
  generalize hq : S.fr.length = nq at *
  have HP := Lib.hid hp
  have HQ := Lib.hid hq
  have HK := Lib.hid hk
  clear hp hq hk hlA
  have hge : ¬ ((S.most : Int) ≤ (np : Int) - (nq : Int)) := by omega
  go_enter Try.func29, Try.ntmps29
  go_wp2_with fail
  (try rw [hW]); (try rw [hb0])
  have hb0w := Lib.hid hb0
  clear hW hb0
  go_region_held3 (fun w' => w'.cell? ⟨a, 0, none⟩ = some (.int .i64 (S.most : Int))) (first | (refine HF.out _ ?_; go_grown; done) | go_keep) (first
    | (go_at_call 15; refine (used_walk (hA.out.below (by go_grown)) ?_ ?_).mono ?_; (· rw [HP.out]; omega); (· rw [HQ.out]; omega); rintro e w1 ⟨rfl, hb1⟩; rw [HP.out, HQ.out]
       have p1 : Below W.heap.size W w1 := Below.trans (by go_grown) (hb1.mono (by simp <;> omega))
       have q1 := p1.size
       clear hb1))
  go_wp2_with fail
  have HA1 := hA.out.below p1
  refine (next_walk HA1 hl3).mono ?_
  rintro e X ⟨rfl, ⟨F2, l2, P2, Q2, hA2, hF2⟩, hO2⟩
  obtain ⟨pa, hpa, hcnt⟩ := HK.out
  obtain ⟨⟨p', v⟩, hx, hp'⟩ := hA2.at_ hpa
  simp only at hp'
  subst hp'
  obtain ⟨d0, d1, d2, d3⟩ := hA2.head0
  obtain ⟨g, c', rfl, hgX, hFg, hil, e0, e1, e2, e3, e4, e5, e6, e7, e8, e9, hz⟩ := hA2.cells0 hx
  simp only at e0 e1 e2 e3 e4 e5 e6 e7 e8 e9
  have hFb : ∀ b, F b → b ≠ b0 := fun b hF e => by have h1 := HL.out b hF; have h2 := hb0w.out; omega
  have h5X : Five X b0 x y (.slice A n c) (.slice B m d) (.slice C p q) := (hO2.block b0 (Nat.lt_of_lt_of_le h5.lt q1) (fun hF => hFb b0 hF rfl)).trans (h5.below p1)
  have HN0 : Hid (∀ (Z : World) (G : Nat → Prop), Arn false G Z a (S.alloc (k + 1) ⟨x, y, ps, ks, zs⟩) → Only F2 X Z → (∀ b, G b → F2 b ∨ X.heap.size ≤ b) → Nx false F w a (S.alloc (k + 1) ⟨x, y, ps, ks, zs⟩) Z) := by
    intro Z G h1 h2 h3
    have hOw : Only F w X := (Only.of_below F (hbW.trans (p1.mono hbW.size))).then hO2
    have hs1 : w.heap.size ≤ w1.heap.size := Nat.le_trans hbW.size q1
    have hF3 : ∀ b, F2 b → F b ∨ w.heap.size ≤ b := fun b e => (hF2 b e).imp id fun e => Nat.le_trans hs1 e
    exact ⟨G, h1, hOw.trans h2 hF3, fun b e => (h3 b e).elim (hF3 b) fun e => .inr (Nat.le_trans hOw.size e)⟩
  have hKb : ∀ b, b < w.heap.size → ¬ F b → X.heap[b]? = w.heap[b]? := fun b hb hF => (hO2.block b (Nat.lt_of_lt_of_le hb (Nat.le_trans hbW.size q1)) hF).trans ((hbW.trans (p1.mono hbW.size)).block b hb)
  have KP : Hid (Lp X A n c ps) := Hp.out.keepAt fun ad e hl => hKb _ hl (HNF.out ad (.inl e))
  have KK : Hid (Sl X B m d ks) := Hk.out.keepAt fun ad e hl => hKb _ hl (HNF.out ad (.inr (.inl e)))
  have KZ : Hid (Sl X C p q zs) := Hz.out.keepAt fun ad e hl => hKb _ hl (HNF.out ad (.inr (.inr e)))
  rw [hcnt] at e1
  obtain ⟨b1, b2, b3, b4, b5⟩ := h5X.cells
  have HC : Hid (∀ w', Below X.heap.size X w' → (w'.cell? ⟨g, S.next.1 * 10 + 1, none⟩ = some (.int .u32 (k : Int)) ∧ w'.cell? ⟨b0, 0, none⟩ = some (.bool x) ∧ w'.cell? ⟨b0, 1, none⟩ = some (.bool y) ∧ w'.cell? ⟨b0, 2, none⟩ = some (.slice A n c) ∧ w'.cell? ⟨b0, 3, none⟩ = some (.slice B m d) ∧ w'.cell? ⟨b0, 4, none⟩ = some (.slice C p q))) :=
    fun w' h => ⟨below_read h e1, below_read h b1, below_read h b2, below_read h b3, below_read h b4, below_read h b5⟩
  have hwr : IntKind.u32.wrap ((k : Int) + 1) = (k : Int) + 1 := by simp only [IntKind.wrap_u32]; omega
  obtain ⟨kk, hk1⟩ : ∃ kk : Int, Hid (((k + 1 : Nat) : Int) = kk) := ⟨_, rfl⟩
  have HS : Hid (S.alloc (k + 1) ⟨x, y, ps, ks, zs⟩ = { S.next.2 with pls := S.next.2.pls.set S.next.1 ⟨true, k + 1, ⟨x, y, ps, ks, zs⟩, zs, 0, false⟩ }) := rfl
  generalize hS2 : S.next.2 = S2 at *
  generalize hi2 : S.next.1 = i at *
  have HI := Lib.hid hi2
  clear hS2 hi2
  have i0 : (0 : Int) ≤ (i : Int) := by omega
  have i1 : (i : Int) < (l2.length : Int) := by omega
  clear hpa HK HA1 hO2 hF2 d0 d2 d3 hcnt hFb hKb
  go_wp2_with fail
  refine region_T (fun k => k == 15) (fun w' => w'.cell? ⟨g, i * 10 + 1, none⟩ = some (.int .u32 (k : Int)) ∧ w'.cell? ⟨b0, 0, none⟩ = some (.bool x) ∧ w'.cell? ⟨b0, 1, none⟩ = some (.bool y) ∧ w'.cell? ⟨b0, 2, none⟩ = some (.slice A n c) ∧ w'.cell? ⟨b0, 3, none⟩ = some (.slice B m d) ∧ w'.cell? ⟨b0, 4, none⟩ = some (.slice C p q)) (by kernel_rfl) ?_
  obtain ⟨X0, hX0, hbX0⟩ : ∃ X0 : World, X.drew = X0 ∧ Below X.heap.size X X0 := ⟨_, rfl, (Below.refl _ X).drew⟩
  rw [hX0]
  clear hX0
  have hC := HC.out X0 hbX0
  refine takeT (i := 0) (v := ?_) rfl (by kernel_rfl) (by kernel_rfl) (by kernel_rfl) (by kernel_rfl) (fun _ _ _ h => h) hC (by rfl) ?_ ?_
  rotate_left
  · intro w hSw; (try dsimp only at hSw); go_simp; try (with_reducible rfl)
  try simp only [Act.put, List.setIfInBounds_toArray, List.set_cons_zero, List.set_cons_succ]
  refine takeT (i := 1) (v := ?_) rfl (by kernel_rfl) (by kernel_rfl) (by kernel_rfl) (by kernel_rfl) (fun _ _ _ h => h) hC (by rfl) ?_ ?_
  rotate_left
  · intro w hSw; (try dsimp only at hSw); go_simp; try (with_reducible rfl)
  try simp only [Act.put, List.setIfInBounds_toArray, List.set_cons_zero, List.set_cons_succ]
  refine takeT (i := 2) (v := ?_) rfl (by kernel_rfl) (by kernel_rfl) (by kernel_rfl) (by kernel_rfl) (fun _ _ _ h => h) hC (by rfl) ?_ ?_
  rotate_left
  · intro w hSw; (try dsimp only at hSw); go_simp; try (with_reducible rfl)
  try simp only [Act.put, List.setIfInBounds_toArray, List.set_cons_zero, List.set_cons_succ]
  refine takeT (i := 3) (v := ?_) rfl (by kernel_rfl) (by kernel_rfl) (by kernel_rfl) (by kernel_rfl) (fun _ _ _ h => h) hC (by rfl) ?_ ?_
  rotate_left
  · intro w hSw; (try dsimp only at hSw); go_simp; try (with_reducible rfl)
  try simp only [Act.put, List.setIfInBounds_toArray, List.set_cons_zero, List.set_cons_succ]
  refine takeT (i := 4) (v := ?_) rfl (by kernel_rfl) (by kernel_rfl) (by kernel_rfl) (by kernel_rfl) (fun _ _ _ h => h) hC (by rfl) ?_ ?_
  rotate_left
  · intro w hSw; (try dsimp only at hSw); go_simp; try (with_reducible rfl)
  try simp only [Act.put, List.setIfInBounds_toArray, List.set_cons_zero, List.set_cons_succ]
  refine takeT (i := 5) (v := ?_) rfl (by kernel_rfl) (by kernel_rfl) (by kernel_rfl) (by kernel_rfl) (fun _ _ _ h => h) hC (by rfl) ?_ ?_
  rotate_left
  · intro w hSw; (try dsimp only at hSw); go_simp; try (with_reducible rfl)
  try simp only [Act.put, List.setIfInBounds_toArray, List.set_cons_zero, List.set_cons_succ]
  refine takeT (i := 6) (v := ?_) rfl (by kernel_rfl) (by kernel_rfl) (by kernel_rfl) (by kernel_rfl) (fun _ _ _ h => h) hC (by rfl) ?_ ?_
  rotate_left
  · intro w hSw; (try dsimp only at hSw); go_simp; try (with_reducible rfl)
  try simp only [Act.put, List.setIfInBounds_toArray, List.set_cons_zero, List.set_cons_succ]
  refine takeT (i := 8) (v := ?_) rfl (by kernel_rfl) (by kernel_rfl) (by kernel_rfl) (by kernel_rfl) (fun _ _ _ h => h) hC (by rfl) ?_ ?_
  rotate_left
  · intro w hSw; (try dsimp only at hSw); go_simp; try (with_reducible rfl)
  try simp only [Act.put, List.setIfInBounds_toArray, List.set_cons_zero, List.set_cons_succ]
  refine takeT (i := 9) (v := ?_) rfl (by kernel_rfl) (by kernel_rfl) (by kernel_rfl) (by kernel_rfl) (fun _ _ _ h => h) hC (by rfl) ?_ ?_
  rotate_left
  · intro w hSw; (try dsimp only at hSw); go_simp; try (with_reducible rfl)
  try simp only [Act.put, List.setIfInBounds_toArray, List.set_cons_zero, List.set_cons_succ]
  refine takeT (i := 10) (v := ?_) rfl (by kernel_rfl) (by kernel_rfl) (by kernel_rfl) (by kernel_rfl) (fun _ _ _ h => h) hC (by rfl) ?_ ?_
  rotate_left
  · intro w hSw; (try dsimp only at hSw); go_simp; try (with_reducible rfl)
  try simp only [Act.put, List.setIfInBounds_toArray, List.set_cons_zero, List.set_cons_succ]
  clear hC
  refine twoT (i := 7) (j := 11) (by kernel_rfl) rfl rfl (by rfl) (by rfl) (fun K hK => ?_) (fun K hK => ?_)
  · go_simp
    refine (nodeSame_walk x y A B C n c m d p q ps ks zs X0 (KP.out.below hbX0) (KK.out.below hbX0) (KZ.out.below hbX0) hps hks hzs).mono ?_
    rintro e X1 ⟨v1, v2, v3, rfl, r1, r2, r3, hst⟩
    obtain ⟨F1, N1, f1, rfl⟩ := r1.shape
    obtain ⟨F2, N2, f2, rfl⟩ := r2.shape
    obtain ⟨F3, N3, f3, rfl⟩ := r3.shape
    replace r1 := r1.lower (base' := X.heap.size) hbX0.size
    replace r2 := r2.lower (base' := X.heap.size) hbX0.size
    replace r3 := r3.lower (base' := X.heap.size) hbX0.size
    have hbX1 := hbX0.trans (hst.mono hbX0.size)
    refine hK.out _ _ (fun _ => HC.out X1 hbX1) ?_
    clear hK K hst
    try simp only [Act.put, List.setIfInBounds_toArray, List.set_cons_zero, List.set_cons_succ]
    refine oneT (i := 11) (by kernel_rfl) rfl (by rfl) (fun K hK => ?_)
    go_simp
    obtain ⟨X2, bz, hX, hbz, hst, cbz⟩ := stepB X1 (.slice C p q) 38
    rw [hX, hbz]
    clear hX hbz
    have hbX2 := hbX1.trans (hst.mono hbX1.size)
    replace r1 := r1.next hst
    replace r2 := r2.next hst
    replace r3 := r3.next hst
    refine hK.out _ _ (fun _ => HC.out X2 hbX2) ?_
    clear hK K hst
    try simp only [Act.put, List.setIfInBounds_toArray, List.set_cons_zero, List.set_cons_succ]
    refine oneT (i := 12) (by kernel_rfl) rfl (by rfl) (fun K hK => ?_)
    go_simp
    refine (concatR1 bz C p q zs X2 cbz (KZ.out.below hbX2) (by omega)).mono ?_
    rintro e X3 ⟨v4, rfl, r4, hst⟩
    obtain ⟨F4, N4, f4, rfl⟩ := r4.shape
    have hbX3 := hbX2.trans (hst.mono hbX2.size)
    have hfar : ∀ b, (Value.slice F3 N3 f3).ownBlock = some b → b < X2.heap.size := fun b e => (World.ownsRow.lt r3 b e).2
    replace r1 := r1.next hst
    replace r2 := r2.next hst
    replace r3 := r3.next hst
    refine hK.out _ _ (fun _ => HC.out X3 hbX3) ?_
    clear hK K hst
    try simp only [Act.put, List.setIfInBounds_toArray, List.set_cons_zero, List.set_cons_succ]
    have hC := HC.out X3 hbX3
    refine oneT (i := 13) (by kernel_rfl) rfl (by rfl) (fun K hK => ?_)
    go_simp
    refine hK.out _ _ (fun _ => hC) ?_
    clear hK K
    try simp only [Act.put, List.setIfInBounds_toArray, List.set_cons_zero, List.set_cons_succ]
    refine oneT (i := 14) (by kernel_rfl) rfl (by rfl) (fun K hK => ?_)
    go_simp
    refine hK.out _ _ (fun _ => hC) ?_
    clear hK K
    try simp only [Act.put, List.setIfInBounds_toArray, List.set_cons_zero, List.set_cons_succ]
    obtain ⟨Z, hZ, hAZ, hOZ, hGZ⟩ := alloc_end hA2 hx hbX3 r1 r2 r3 r4 hbX2.size hfar hps hks hzs x y k
    have HZ := Lib.hid hZ
    clear hZ
    have j0 := below_read hbX3 e0
    have z0 := (hbX3.frozen (p := ⟨g, i * 10, none⟩) hgX).trans (hz (i * 10))
    have j1 := below_read hbX3 e1
    have z1 := (hbX3.frozen (p := ⟨g, i * 10 + 1, none⟩) hgX).trans (hz (i * 10 + 1))
    have j2 := below_read hbX3 e2
    have z2 := (hbX3.frozen (p := ⟨g, i * 10 + 2, none⟩) hgX).trans (hz (i * 10 + 2))
    have j3 := below_read hbX3 e3
    have z3 := (hbX3.frozen (p := ⟨g, i * 10 + 3, none⟩) hgX).trans (hz (i * 10 + 3))
    have j4 := below_read hbX3 e4
    have z4 := (hbX3.frozen (p := ⟨g, i * 10 + 4, none⟩) hgX).trans (hz (i * 10 + 4))
    have j5 := below_read hbX3 e5
    have z5 := (hbX3.frozen (p := ⟨g, i * 10 + 5, none⟩) hgX).trans (hz (i * 10 + 5))
    have j6 := below_read hbX3 e6
    have z6 := (hbX3.frozen (p := ⟨g, i * 10 + 6, none⟩) hgX).trans (hz (i * 10 + 6))
    have j7 := below_read hbX3 e7
    have z7 := (hbX3.frozen (p := ⟨g, i * 10 + 7, none⟩) hgX).trans (hz (i * 10 + 7))
    have j8 := below_read hbX3 e8
    have z8 := (hbX3.frozen (p := ⟨g, i * 10 + 8, none⟩) hgX).trans (hz (i * 10 + 8))
    have j9 := below_read hbX3 e9
    have z9 := (hbX3.frozen (p := ⟨g, i * 10 + 9, none⟩) hgX).trans (hz (i * 10 + 9))
    refine oneT (i := 15) (by kernel_rfl) rfl (by rfl) (fun K hK => ?_)
    go_simp
    refine hK.out _ _ (fun h => by cases h) ?_
    clear hK K
    refine doneT (by kernel_rfl) ?_
    rw [HZ.out]
    clear j0 z0 j1 z1 j2 z2 j3 z3 j4 z4 j5 z5 j6 z6 j7 z7 j8 z8 j9 z9
    have q1 := alloc_read hAZ hil
    have HN := Lib.hid (HN0.out Z _ ⟨_, _, _, by rw [HS.out]; exact hAZ⟩ hOZ hGZ)
    clear hAZ hOZ hGZ hC hx hfar r1 r2 r3 r4 e0 e1 e2 e3 e4 e5 e6 e7 e8 e9 hz b1 b2 b3 b4 b5 cbz hA2 h5X KP KK KZ HC HN0 d1 hwr hge hroom
    rw [hk1.out] at q1
    go_wp2_with fail
    refine (of_walk i kk (by have := hk1.out; omega) _).mono ?_
    rintro e w' ⟨rfl, rfl⟩
    go_wp2
    go_ret2
    refine ⟨?_, HN.out⟩
    rw [HI.out, hk1.out]
    rfl
  · go_simp
    obtain ⟨X1, bz, hX, hbz, hst, cbz⟩ := stepB X0 (.slice C p q) 38
    rw [hX, hbz]
    clear hX hbz
    have hbX1 := hbX0.trans (hst.mono hbX0.size)
    refine hK.out _ _ (fun _ => HC.out X1 hbX1) ?_
    clear hK K hst
    try simp only [Act.put, List.setIfInBounds_toArray, List.set_cons_zero, List.set_cons_succ]
    refine oneT (i := 7) (by kernel_rfl) rfl (by rfl) (fun K hK => ?_)
    go_simp
    refine (nodeSame_walk x y A B C n c m d p q ps ks zs X1 (KP.out.below hbX1) (KK.out.below hbX1) (KZ.out.below hbX1) hps hks hzs).mono ?_
    rintro e X2 ⟨v1, v2, v3, rfl, r1, r2, r3, hst⟩
    obtain ⟨F1, N1, f1, rfl⟩ := r1.shape
    obtain ⟨F2, N2, f2, rfl⟩ := r2.shape
    obtain ⟨F3, N3, f3, rfl⟩ := r3.shape
    replace r1 := r1.lower (base' := X.heap.size) hbX1.size
    replace r2 := r2.lower (base' := X.heap.size) hbX1.size
    replace r3 := r3.lower (base' := X.heap.size) hbX1.size
    have hbX2 := hbX1.trans (hst.mono hbX1.size)
    replace cbz := below_read hst cbz
    refine hK.out _ _ (fun _ => HC.out X2 hbX2) ?_
    clear hK K hst
    try simp only [Act.put, List.setIfInBounds_toArray, List.set_cons_zero, List.set_cons_succ]
    refine oneT (i := 12) (by kernel_rfl) rfl (by rfl) (fun K hK => ?_)
    go_simp
    refine (concatR1 bz C p q zs X2 cbz (KZ.out.below hbX2) (by omega)).mono ?_
    rintro e X3 ⟨v4, rfl, r4, hst⟩
    obtain ⟨F4, N4, f4, rfl⟩ := r4.shape
    have hbX3 := hbX2.trans (hst.mono hbX2.size)
    have hfar : ∀ b, (Value.slice F3 N3 f3).ownBlock = some b → b < X2.heap.size := fun b e => (World.ownsRow.lt r3 b e).2
    replace r1 := r1.next hst
    replace r2 := r2.next hst
    replace r3 := r3.next hst
    refine hK.out _ _ (fun _ => HC.out X3 hbX3) ?_
    clear hK K hst
    try simp only [Act.put, List.setIfInBounds_toArray, List.set_cons_zero, List.set_cons_succ]
    have hC := HC.out X3 hbX3
    refine oneT (i := 13) (by kernel_rfl) rfl (by rfl) (fun K hK => ?_)
    go_simp
    refine hK.out _ _ (fun _ => hC) ?_
    clear hK K
    try simp only [Act.put, List.setIfInBounds_toArray, List.set_cons_zero, List.set_cons_succ]
    refine oneT (i := 14) (by kernel_rfl) rfl (by rfl) (fun K hK => ?_)
    go_simp
    refine hK.out _ _ (fun _ => hC) ?_
    clear hK K
    try simp only [Act.put, List.setIfInBounds_toArray, List.set_cons_zero, List.set_cons_succ]
    obtain ⟨Z, hZ, hAZ, hOZ, hGZ⟩ := alloc_end hA2 hx hbX3 r1 r2 r3 r4 hbX2.size hfar hps hks hzs x y k
    have HZ := Lib.hid hZ
    clear hZ
    have j0 := below_read hbX3 e0
    have z0 := (hbX3.frozen (p := ⟨g, i * 10, none⟩) hgX).trans (hz (i * 10))
    have j1 := below_read hbX3 e1
    have z1 := (hbX3.frozen (p := ⟨g, i * 10 + 1, none⟩) hgX).trans (hz (i * 10 + 1))
    have j2 := below_read hbX3 e2
    have z2 := (hbX3.frozen (p := ⟨g, i * 10 + 2, none⟩) hgX).trans (hz (i * 10 + 2))
    have j3 := below_read hbX3 e3
    have z3 := (hbX3.frozen (p := ⟨g, i * 10 + 3, none⟩) hgX).trans (hz (i * 10 + 3))
    have j4 := below_read hbX3 e4
    have z4 := (hbX3.frozen (p := ⟨g, i * 10 + 4, none⟩) hgX).trans (hz (i * 10 + 4))
    have j5 := below_read hbX3 e5
    have z5 := (hbX3.frozen (p := ⟨g, i * 10 + 5, none⟩) hgX).trans (hz (i * 10 + 5))
    have j6 := below_read hbX3 e6
    have z6 := (hbX3.frozen (p := ⟨g, i * 10 + 6, none⟩) hgX).trans (hz (i * 10 + 6))
    have j7 := below_read hbX3 e7
    have z7 := (hbX3.frozen (p := ⟨g, i * 10 + 7, none⟩) hgX).trans (hz (i * 10 + 7))
    have j8 := below_read hbX3 e8
    have z8 := (hbX3.frozen (p := ⟨g, i * 10 + 8, none⟩) hgX).trans (hz (i * 10 + 8))
    have j9 := below_read hbX3 e9
    have z9 := (hbX3.frozen (p := ⟨g, i * 10 + 9, none⟩) hgX).trans (hz (i * 10 + 9))
    refine oneT (i := 15) (by kernel_rfl) rfl (by rfl) (fun K hK => ?_)
    go_simp
    refine hK.out _ _ (fun h => by cases h) ?_
    clear hK K
    refine doneT (by kernel_rfl) ?_
    rw [HZ.out]
    clear j0 z0 j1 z1 j2 z2 j3 z3 j4 z4 j5 z5 j6 z6 j7 z7 j8 z8 j9 z9
    have q1 := alloc_read hAZ hil
    have HN := Lib.hid (HN0.out Z _ ⟨_, _, _, by rw [HS.out]; exact hAZ⟩ hOZ hGZ)
    clear hAZ hOZ hGZ hC hx hfar r1 r2 r3 r4 e0 e1 e2 e3 e4 e5 e6 e7 e8 e9 hz b1 b2 b3 b4 b5 cbz hA2 h5X KP KK KZ HC HN0 d1 hwr hge hroom
    rw [hk1.out] at q1
    go_wp2_with fail
    refine (of_walk i kk (by have := hk1.out; omega) _).mono ?_
    rintro e w' ⟨rfl, rfl⟩
    go_wp2
    go_ret2
    refine ⟨?_, HN.out⟩
    rw [HI.out, hk1.out]
    rfl
end
end Go.Proofs.Ytmnbdhngadjmiaa
