/-
  What thread's end, stopped, goThrough and Step return, whatever the work, and what the thread is behind them.
-/
import Derived.Test.YtmnbdhngadjmiaaDo6
import Derived.Defers
import Derived.Recover
import Derived.Laws.EntriesVeiled
import Derived.RegionTactic
namespace Go.Proofs.Ytmnbdhngadjmiaa
open Go.ChangeShapes Go.WideShapes Go.ChangeAt Go.RowKit
set_option linter.unusedVariables false
set_option linter.unusedSimpArgs false
set_option maxRecDepth 20000

section
variable {F G : Nat → Prop} {w w' : World} {a st ph k : Nat} {zs os : List Int} {wk T O : Value}
theorem Th.ended {Z : World} {A : Option Addr} {m c : Nat} (h : Th F Z a wk zs st O os ph k T) {ws : List Int} (hr : Row 2 0 Z (.slice A m c) ws) :
    Th (fun b => F b ∨ (Value.slice A m c).ownBlock = some b) (((Z.setCell ⟨a, 0, none⟩ .nilFunc).setCell ⟨a, 1, none⟩ (.slice none 0 0)).setCell ⟨a, 3, none⟩ (.slice A m c)) a .nilFunc [] st (.slice A m c) ws ph k (.slice none 0 0) := by
  have h0 := heap_set (j := 0) h.head .nilFunc
  have h1 := heap_set (j := 1) h0 (.slice none 0 0)
  have h2 := heap_set (j := 3) h1 (.slice A m c)
  refine ⟨h2, Row.nil _ _ _, own_set (own_set (own_set hr ⟨_, h.head⟩ ne_int _) ⟨_, h0⟩ ne_int _) ⟨_, h1⟩ ne_int _, .inl h.fa, fun b e => (by cases e), fun b e => .inr e, fun b e => ?_, .inl rfl⟩
  simp only [World.size_setCell]
  rcases e with e | e
  · exact h.lt b e
  · exact (World.ownsRow.lt hr b e).2

set_option maxHeartbeats 1000000 in
theorem end_walk {A : Option Addr} {n c : Nat} {ws : List Int} (h : Th F w a wk zs st O os ph k T) (hs : Sl w A n c ws) (hl : ws.length ≤ 1000) :
    Calls Try.prog 87 #[ptr a, .slice A n c] w fun e w' => e = .returned (.tuple #[]) ∧ ∃ F' O', Th F' w' a .nilFunc [] st O' ws ph k (.slice none 0 0) ∧ Only (· = a) w w' ∧ ∀ b, F' b → F b ∨ w.heap.size ≤ b := by
  obtain ⟨W, hW, hb, hc⟩ : ∃ W : World, w.alloc (.cells #[.slice A n c] 37) = W ∧ Below w.heap.size w W ∧ W.cell? ⟨w.heap.size, 0, none⟩ = some (.slice A n c) := ⟨_, rfl, below_new _ _, c_new rfl rfl⟩
  have hcc := (concatK1 w.heap.size A n c ws W hc (hs.below hb) hl)
  have HT := Lib.hid h
  have HB := Lib.hid hb
  clear hs h hb
  go_enter Try.func87, Try.ntmps87
  go_wp2_with fail
  (try rw [hW])
  refine hcc.mono ?_
  rintro e w1 ⟨v, rfl, hr, hb1⟩
  obtain ⟨A', m', c', rfl⟩ := hr.shape
  have hbb : Below w.heap.size w w1 := HB.out.trans (hb1.mono HB.out.size)
  have h1 := HT.out.below hbb
  have h2 := h1.ended (hr.lower (Nat.zero_le _))
  obtain ⟨c0, c1, c2, c3, c4, c5⟩ := h1.cells
  have f0 := h1.free 0
  have f1 := h1.free 1
  have f3 := h1.free 3
  have HE : Hid (∃ F' O', Th F' (((w1.setCell ⟨a, 0, none⟩ .nilFunc).setCell ⟨a, 1, none⟩ (.slice none 0 0)).setCell ⟨a, 3, none⟩ (.slice A' m' c')) a .nilFunc [] st O' ws ph k (.slice none 0 0) ∧ Only (· = a) w (((w1.setCell ⟨a, 0, none⟩ .nilFunc).setCell ⟨a, 1, none⟩ (.slice none 0 0)).setCell ⟨a, 3, none⟩ (.slice A' m' c')) ∧ ∀ b, F' b → F b ∨ w.heap.size ≤ b) := ⟨_, _, h2, (((Only.of_below _ hbb).then (only_set _ _ _ _)).then (only_set _ _ _ _)).then (only_set _ _ _ _), fun b e => e.imp id fun e => Nat.le_trans HB.out.size (World.ownsRow.lt hr b e).1⟩
  clear h1 h2 hbb hb1 hr hcc hc hW
  go_wp2
  go_end0
  exact ⟨rfl, HE.out⟩

theorem stopped_walk (p : Value) (w : World) : Calls Try.prog 86 #[p, waitV] w fun e w' => e = .returned (.tuple #[]) ∧ Below w.heap.size w w' := by
  have hta : ∀ W : World, (Instr.typeAssert waitV 20 131 true).run Try.prog W = .ok (.tuple #[.agg #[], .bool true]) W := fun W => by kernel_rfl
  go_enter Try.func86, Try.ntmps86
  go_wp2
  go_end0
  exact ⟨rfl, below_new _ _⟩

/-- goThrough's deferred function, where work came to its end. -/
theorem catch_idle {B : Nat} (h : Th F w a wk zs st O os ph k T) (hc : w.cell? ⟨B, 0, none⟩ = some (ptr a)) :
    CallsD Try.prog 85 #[ptr B] .returning w fun e u' w' => e = .returned (.tuple #[]) ∧ u' = .returning ∧ w' = w.setCell ⟨a, 4, none⟩ (.int .u8 0) := by
  obtain ⟨c0, c1, c2, c3, c4, c5⟩ := h.cells
  have f4 := h.free 4
  refine callsD_of_wpS Try.func85 rfl fun c₀ cs hu => ?_
  apply wpS_seq
  apply wpS_region
  simp [wpOpsS, go_sem, recoverD, hu, Try.ntmps85, Exit.thenS, hc, c4, f4]
  apply wpS_seq
  apply wpS_region
  simp [wpOpsS, go_sem, recoverD, hu, Exit.thenS]
  apply wpS_seq
  apply wpS_region
  simp [wpOpsS, go_sem, Exit.thenS]
  refine wpS_cond (t := false) (by simp [Act.eval, Array.replicate]) ?_
  simp only [Bool.false_eq_true, if_false]
  refine wpS_of_wp (wp_skip ?_)
  cases c₀
  simp_all [bodyPostS, results, Try.results85]

/-- goThrough's deferred function, where work waits. -/
theorem catch_wait {B : Nat} (h : Th F w a wk zs st O os ph k T) (hc : w.cell? ⟨B, 0, none⟩ = some (ptr a)) (hB : B ≠ a) :
    CallsD Try.prog 85 #[ptr B] (.panicking waitE) w fun e u' w' => e = .returned (.tuple #[]) ∧ u' = .panicking [{ v := waitV, recovered := true }] ∧ Below w.heap.size (w.setCell ⟨a, 4, none⟩ (.int .u8 0)) w' := by
  obtain ⟨c0, c1, c2, c3, c4, c5⟩ := h.cells
  have f4 := h.free 4
  have hc2 : (w.setCell ⟨a, 4, none⟩ (.int .u8 0)).cell? ⟨B, 0, none⟩ = some (ptr a) := by rw [World.cell?_setCell_other]; exact hc; intro e; injection e with e; exact hB e.symm
  refine callsD_of_wpS Try.func85 rfl fun c₀ cs hu => ?_
  apply wpS_seq
  apply wpS_region
  simp [wpOpsS, go_sem, recoverD, hu, Try.ntmps85, Exit.thenS, hc, c4, f4]
  apply wpS_seq
  apply wpS_region
  simp [wpOpsS, go_sem, recoverD, hu, Exit.thenS]
  apply wpS_seq
  apply wpS_region
  simp [wpOpsS, go_sem, Exit.thenS]
  refine wpS_cond (t := true) (by simp [Act.eval, Array.replicate]) ?_
  simp only [if_true]
  apply wpS_region
  generalize hW : w.setCell ⟨a, 4, none⟩ (.int .u8 0) = W at *
  simp [wpOpsS, go_sem, hc2]
  refine (stopped_walk _ W).mono ?_
  rintro e w1 ⟨rfl, hb⟩
  have hsz : W.heap.size = w.heap.size := by rw [← hW]; simp
  rw [hsz] at hb
  exact ⟨rfl, _, rfl, .tuple #[], by simp [results, Try.results85, go_sem], rfl, rfl, hb⟩
end

/-- A function without results: what its slots hold doesn't matter where it leaves. -/
theorem leaves_tmps {P : Program} {fn : Func} {R : Ending → World → Prop} (hr : ∀ t t', results fn t = results fn t') : ∀ (ds : List Deferred) (u : FrameMode) (w : World) (t t' : Array Value), Leaves P fn t R ds u w → Leaves P fn t' R ds u w
  | [], .returning, w, t, t', h => by
    obtain ⟨v, h1, h2⟩ := h
    exact ⟨v, by rw [hr t' t]; exact h1, h2⟩
  | [], .panicking chain, w, t, t', h => h
  | [], .run, w, t, t', h => h
  | d :: ds, u, w, t, t', ⟨hu, fv, cap, f, args, h1, h2, h3⟩ => ⟨hu, fv, cap, f, args, h1, h2, h3.mono fun e u' w' h => by
      cases e with
      | returned v => exact leaves_tmps hr ds _ w' t t' h
      | panicked chain => exact leaves_tmps hr ds _ w' t t' h
      | outgrown => exact h⟩

theorem only_read {G : Nat → Prop} {w w' : World} {p : Addr} {v : Value} (h : Only G w w') (hn : ¬ G p.block) (hc : w.cell? p = some v) : w'.cell? p = some v := by
  unfold World.cell? at hc ⊢
  rw [h.block p.block (World.block_lt_of_cell? w p hc) hn]
  exact hc
theorem put_defers (s : Act) (d : Option Tmp) (v : Value) : (s.put d v).defers = s.defers := by cases d <;> rfl
abbrev RetP := (Nat → Prop) → List Int → List Int → Nat → World → Prop
abbrev WaitP := (Nat → Prop) → List Int → Nat → World → Prop
/-- What work comes to, gone through from its beginning: its end, with an answer; or it waits. -/
def WEnd (a : Nat) (wk : Value) (RP : RetP) (WP : WaitP) (G : Nat → Prop) (w1 : World) (e : Ending) (w2 : World) : Prop :=
  Only G w1 w2 ∧ ((∃ F' T' zs' st' k' ph A n c ws, e = .returned (.slice A n c) ∧ Sl w2 A n c ws ∧ ws.length ≤ 1000 ∧ ph ≠ 4 ∧ ph < 200 ∧ Th F' w2 a wk zs' st' (.slice none 0 0) [] ph k' T' ∧ RP F' ws zs' st' w2) ∨
    (∃ F' T' zs' st' k', e = .panicked waitE ∧ Th F' w2 a wk zs' st' (.slice none 0 0) [] 4 k' T' ∧ WP F' zs' st' w2))
/-- What the thread is behind that. -/
def Gone (a : Nat) (wk : Value) (RP : RetP) (WP : WaitP) (w' : World) : Prop :=
  (∃ w2 F' ws zs' st' k' F'' O', RP F' ws zs' st' w2 ∧ Th F'' w' a .nilFunc [] st' O' ws 0 k' (.slice none 0 0) ∧ Only (· = a) w2 w' ∧ ∀ b, F'' b → F' b ∨ w2.heap.size ≤ b) ∨
    (∃ w2 F' T' zs' st' k', WP F' zs' st' w2 ∧ Th F' w' a wk zs' st' (.slice none 0 0) [] 0 k' T' ∧ Only (· = a) w2 w')

section
variable {F G : Nat → Prop} {w w' : World} {a st ph k : Nat} {zs os : List Int} {T O : Value}
set_option maxHeartbeats 2000000 in
theorem goThrough_walk {RP : RetP} {WP : WaitP} {f : Nat} {cap args : Array Value} (hargs : #[ptr a] ++ cap = args) (hen : ∀ W : World, (callFunc f args).run Try.prog W = .ok (.enter f args) W)
    (h : Th F w a (.func (.func f) #[] cap) zs st (.slice none 0 0) [] 0 k T) (hG : ∀ b, G b → b < w.heap.size)
    (hw : ∀ w1, Th F w1 a (.func (.func f) #[] cap) zs st (.slice none 0 0) [] 1 0 T → Only (· = a) w w1 → Calls Try.prog f args w1 (WEnd a (.func (.func f) #[] cap) RP WP G w1)) :
    Calls Try.prog 73 #[ptr a] w fun e w' => e = .returned (.tuple #[]) ∧ Gone a (.func (.func f) #[] cap) RP WP w' := by
  have hmf := mk_fn
  obtain ⟨W0, B, hW0, hB, b0, d0⟩ : ∃ (W0 : World) (B : Nat), w.alloc (.cells #[ptr a] 55) = W0 ∧ w.heap.size = B ∧ Below w.heap.size w W0 ∧ W0.cell? ⟨B, 0, none⟩ = some (ptr a) := ⟨_, _, rfl, rfl, below_new _ _, c_new rfl rfl⟩
  have h0 := h.below b0
  have hBa : B ≠ a := by have := h.lt a h.fa; omega
  obtain ⟨c0, c1, c2, c3, c4, c5⟩ := h0.cells
  have f4 := h0.free 4
  have f5 := h0.free 5
  have HH := Lib.hid h0
  have HB := Lib.hid b0
  clear h b0 h0
  go_enter_defers Try.func73, Try.ntmps73
  go_wp2
  (try rw [hW0]); (try rw [hB])
  have hne : ¬ a = B := fun e => hBa e.symm
  go_region
  obtain ⟨W1, hW1, h1, q1, o1⟩ : ∃ W1 : World, ((W0.setCell ⟨a, 5, none⟩ (.int .i64 0)).setCell ⟨a, 4, none⟩ (.int .u8 1)).drew = W1 ∧ Th F W1 a (.func (.func f) #[] cap) zs st (.slice none 0 0) [] 1 0 T ∧ W1.cell? ⟨B, 0, none⟩ = some (ptr a) ∧ Only (· = a) W0 W1 :=
    ⟨_, rfl, ((HH.out.at_ 0).phase 1).drew, by
      show ((W0.setCell ⟨a, 5, none⟩ (.int .i64 0)).setCell ⟨a, 4, none⟩ (.int .u8 1)).cell? ⟨B, 0, none⟩ = _
      rw [World.cell?_setCell_other, World.cell?_setCell_other]
      · exact d0
      · intro e; injection e with e; exact hne e
      · intro e; injection e with e; exact hne e, ((only_set _ _ _ _).then (only_set _ _ _ _)).then (only_drew _ _)⟩
  rw [hW1]
  clear hW1 c0 c1 c2 c3 c4 c5 f4 f5 d0 hW0
  have HT := Lib.hid h1
  obtain ⟨c0, -, -, -, -, -⟩ := h1.cells
  have HC : Hid (∀ w', Below W1.heap.size W1 w' → w'.cell? ⟨B, 0, none⟩ = some (ptr a) ∧ w'.cell? ⟨a, 0, none⟩ = some (.func (.func f) #[] cap)) := fun w' h => ⟨below_read h q1, below_read h c0⟩
  clear h1
  go_wp2_with fail
  refine region_T (fun _ => false) (fun w' => w'.cell? ⟨B, 0, none⟩ = some (ptr a) ∧ w'.cell? ⟨a, 0, none⟩ = some (.func (.func f) #[] cap)) (by kernel_rfl) ?_
  obtain ⟨X0, hX0, hbX0⟩ : ∃ X0 : World, W1.drew = X0 ∧ Below W1.heap.size W1 X0 := ⟨_, rfl, (Below.refl _ W1).drew⟩
  rw [hX0]
  clear hX0
  have hC := HC.out X0 hbX0
  have hQ : ∀ (c : List PanicEntry) (s s' : Act) (w : World), s.defers = s'.defers → bodyPostD Try.prog Try.f73 (fun e w' => e = .returned (.tuple #[]) ∧ Gone a (.func (.func f) #[] cap) RP WP w') (.panic c) s w → bodyPostD Try.prog Try.f73 (fun e w' => e = .returned (.tuple #[]) ∧ Gone a (.func (.func f) #[] cap) RP WP w') (.panic c) s' w := by
    intro c s s' w hd hp
    unfold bodyPostD at hp ⊢
    dsimp only at hp ⊢
    rw [← hd]
    exact leaves_tmps (fun t t' => by simp [results, Try.results73]) _ _ _ _ _ hp
  refine takeT (i := 0) (v := ?_) rfl (by kernel_rfl) (by kernel_rfl) (by kernel_rfl) (by kernel_rfl) (fun c s w h => hQ c _ s w (put_defers s _ _) h) hC (by rfl) ?_ ?_
  rotate_left
  · intro w hSw; (try dsimp only at hSw); go_simp; try (with_reducible rfl)
  try simp only [Act.put, List.setIfInBounds_toArray, List.set_cons_zero, List.set_cons_succ]
  refine takeT (i := 4) (v := ?_) rfl (by kernel_rfl) (by kernel_rfl) (by kernel_rfl) (by kernel_rfl) (fun c s w h => hQ c _ s w (put_defers s _ _) h) hC (by rfl) ?_ ?_
  rotate_left
  · intro w hSw; (try dsimp only at hSw); go_simp; try (with_reducible rfl)
  try simp only [Act.put, List.setIfInBounds_toArray, List.set_cons_zero, List.set_cons_succ]
  refine takeT (i := 1) (v := ?_) rfl (by kernel_rfl) (by kernel_rfl) (by kernel_rfl) (by kernel_rfl) (fun c s w h => hQ c _ s w (put_defers s _ _) h) hC (by rfl) ?_ ?_
  rotate_left
  · intro w hSw; (try dsimp only at hSw); go_simp; try (with_reducible rfl)
  try simp only [Act.put, List.setIfInBounds_toArray, List.set_cons_zero, List.set_cons_succ]
  refine takeT (i := 2) (v := ?_) rfl (by kernel_rfl) (by kernel_rfl) (by kernel_rfl) (by kernel_rfl) (fun c s w h => hQ c _ s w (put_defers s _ _) h) hC (by rfl) ?_ ?_
  rotate_left
  · intro w hSw; (try dsimp only at hSw); go_simp; try (with_reducible rfl)
  try simp only [Act.put, List.setIfInBounds_toArray, List.set_cons_zero, List.set_cons_succ]
  refine takeT (i := 3) (v := ?_) rfl (by kernel_rfl) (by kernel_rfl) (by kernel_rfl) (by kernel_rfl) (fun c s w h => hQ c _ s w (put_defers s _ _) h) hC (by rfl) ?_ ?_
  rotate_left
  · intro w hSw; (try dsimp only at hSw); go_simp; try (with_reducible rfl)
  try simp only [Act.put, List.setIfInBounds_toArray, List.set_cons_zero, List.set_cons_succ]
  have hX := HT.out.below hbX0
  have hoX : Only (· = a) w X0 := ((Only.of_below _ HB.out).then o1).then (Only.of_below _ hbX0)
  have hwX := hw X0 hX hoX
  refine oneT (i := 5) (by kernel_rfl) rfl (by rfl) (fun K hK => ?_)
  go_simp
  refine hwX.mono ?_
  have hnG : ¬ G B := fun e => by have := hG B e; omega
  have hBX : B < X0.heap.size := World.block_lt_of_cell? X0 _ hC.1
  clear hwX hw hen hargs
  rintro e X1 ⟨hO, ⟨F', T', zs', st', k', ph, A, n, c, ws, rfl, hs, hl, hp4, hp, h1, hR⟩ | ⟨F', T', zs', st', k', rfl, h1, hR⟩⟩
  · have hbox := only_read hO hnG hC.1
    obtain ⟨g0, -, -, -, g4, -⟩ := h1.cells
    refine hK.out _ _ (fun _ => ⟨hbox, g0⟩) ?_
    clear hK K hC hQ HC HT HB HH hX hoX o1 hO
    try simp only [Act.put, List.setIfInBounds_toArray, List.set_cons_zero, List.set_cons_succ]
    refine oneT (i := 6) (by kernel_rfl) rfl (by rfl) (fun K hK => ?_)
    go_simp
    refine hK.out _ _ (fun _ => ⟨hbox, g0⟩) ?_
    clear hK K
    refine doneT (by kernel_rfl) ?_
    have p4 : ¬ (ph : Int) = 4 := by omega
    have HP : Hid (∀ W, W = X1 → Th F' W a (.func (.func f) #[] cap) zs' st' (.slice none 0 0) [] ph k' T') := fun W e => by subst e; exact h1
    have HS := Lib.hid hs
    have HR := Lib.hid hR
    clear h1 hs hR c0 q1
    generalize hpi : (ph : Int) = pi at *
    go_wp2_with fail
    refine (end_walk (HP.out X1 rfl) HS.out hl).mono ?_
    rintro e X2 ⟨rfl, F2, O2, h2, o2, l2⟩
    have hbox2 := only_read o2 (show ¬ B = a from hBa) hbox
    go_wp2_with fail
    refine leaves_cons (f := 85) (args := #[ptr B]) (by simp) (by simp [go_sem]) ?_
    refine (catch_idle h2 hbox2).mono ?_
    rintro e u' w'' ⟨rfl, rfl, rfl⟩
    refine ⟨.tuple #[], by simp [results, Try.results73, go_sem], rfl, .inl ?_⟩
    exact ⟨X1, F', ws, zs', st', k', F2, O2, HR.out, h2.phase 0, o2.then (only_set _ _ _ _), l2⟩
  · have hbox := only_read hO hnG hC.1
    refine leaves_cons (f := 85) (args := #[ptr B]) (by simp) (by simp [go_sem]) ?_
    refine (catch_wait h1 hbox hBa).mono ?_
    rintro e u' w'' ⟨rfl, rfl, hb⟩
    refine ⟨.tuple #[], by simp [results, Try.results73, go_sem], rfl, .inr ?_⟩
    exact ⟨X1, F', T', zs', st', k', hR, (h1.phase 0).below (by rw [World.size_setCell]; exact hb), (only_set _ _ _ _).then (Only.of_below _ (by rw [World.size_setCell]; exact hb))⟩

/-- Step. -/
theorem step_done (h : Th F w a .nilFunc zs st O os ph k T) : Calls Try.prog 45 #[ptr a] w fun e w' => e = .returned (.bool true) ∧ w = w' := by
  have hd := done_yes h
  clear h
  go_enter Try.func45, Try.ntmps45
  go_wp2_with fail
  refine hd.mono ?_
  rintro e w1 ⟨rfl, rfl⟩
  clear hd
  go_wp2
  go_ret
  exact ⟨rfl, rfl⟩
theorem step_nil (w : World) : Calls Try.prog 45 #[nilp] w fun e w' => e = .returned (.bool true) ∧ w = w' := by
  have hd := done_nil w
  go_enter Try.func45, Try.ntmps45
  go_wp2_with fail
  refine hd.mono ?_
  rintro e w1 ⟨rfl, rfl⟩
  clear hd
  go_wp2
  go_ret
  exact ⟨rfl, rfl⟩
/-- Step, of one that isn't at its end: what its work comes to tells which. -/
theorem step_walk {RP : RetP} {WP : WaitP} {f : Nat} {cap args : Array Value} (hargs : #[ptr a] ++ cap = args) (hen : ∀ W : World, (callFunc f args).run Try.prog W = .ok (.enter f args) W)
    (h : Th F w a (.func (.func f) #[] cap) zs st (.slice none 0 0) [] 0 k T) (hG : ∀ b, G b → b < w.heap.size)
    (hw : ∀ w1, Th F w1 a (.func (.func f) #[] cap) zs st (.slice none 0 0) [] 1 0 T → Only (· = a) w w1 → Calls Try.prog f args w1 (WEnd a (.func (.func f) #[] cap) RP WP G w1)) :
    Calls Try.prog 45 #[ptr a] w fun e w' => 
      (∃ w2 F' ws zs' st' k' F'' O', e = .returned (.bool true) ∧ RP F' ws zs' st' w2 ∧ Th F'' w' a .nilFunc [] st' O' ws 0 k' (.slice none 0 0) ∧ Only (· = a) w2 w' ∧ ∀ b, F'' b → F' b ∨ w2.heap.size ≤ b) ∨
      (∃ w2 F' T' zs' st' k', e = .returned (.bool false) ∧ WP F' zs' st' w2 ∧ Th F' w' a (.func (.func f) #[] cap) zs' st' (.slice none 0 0) [] 0 k' T' ∧ Only (· = a) w2 w') := by
  have hd := done_no h
  have hgo := goThrough_walk hargs hen h hG hw
  obtain ⟨c0, c1, c2, c3, c4, c5⟩ := h.cells
  clear h hw hen hargs c0 c1 c2 c3 c5
  go_enter Try.func45, Try.ntmps45
  go_wp2_with fail
  refine hd.mono ?_
  rintro e w1 ⟨rfl, rfl⟩
  clear hd
  go_wp2_with fail
  refine hgo.mono ?_
  rintro e w2 ⟨rfl, ⟨x, F', ws, zs', st', k', F'', O', h1, h2, h3, h4⟩ | ⟨x, F', T', zs', st', k', h1, h2, h3⟩⟩
  · clear hgo c4
    have hd := done_yes h2
    have HE : Hid (∃ w2_1 F' ws zs' st' k' F'' O', RP F' ws zs' st' w2_1 ∧ Th F'' w2 a .nilFunc [] st' O' ws 0 k' (.slice none 0 0) ∧ Only (· = a) w2_1 w2 ∧ ∀ b, F'' b → F' b ∨ w2_1.heap.size ≤ b) := ⟨x, F', ws, zs', st', k', F'', O', h1, h2, h3, h4⟩
    clear h1 h2 h3 h4
    go_wp2_with fail
    refine hd.mono ?_
    rintro e w1 ⟨rfl, rfl⟩
    clear hd
    go_wp2
    go_ret
    obtain ⟨x, F', ws, zs', st', k', F'', O', h1, h2, h3, h4⟩ := HE.out
    exact .inl ⟨x, F', ws, zs', st', k', F'', O', rfl, h1, h2, h3, h4⟩
  · clear hgo c4
    have hd := done_no h2
    have HE : Hid (∃ w2_1 F' T' zs' st' k', WP F' zs' st' w2_1 ∧ Th F' w2 a (.func (.func f) #[] cap) zs' st' (.slice none 0 0) [] 0 k' T' ∧ Only (· = a) w2_1 w2) := ⟨x, F', T', zs', st', k', h1, h2, h3⟩
    clear h1 h2 h3
    go_wp2_with fail
    refine hd.mono ?_
    rintro e w1 ⟨rfl, rfl⟩
    clear hd
    go_wp2
    go_ret
    obtain ⟨x, F', T', zs', st', k', h1, h2, h3⟩ := HE.out
    exact .inr ⟨x, F', T', zs', st', k', rfl, h1, h2, h3⟩
end
end Go.Proofs.Ytmnbdhngadjmiaa
