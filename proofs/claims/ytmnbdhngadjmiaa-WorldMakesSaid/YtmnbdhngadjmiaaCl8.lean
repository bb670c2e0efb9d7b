/-
  The laws' work: Leave, and Drop, of nodes that the law holds; memory of a law's own beside a world.
-/
import Derived.Test.YtmnbdhngadjmiaaDn8
import Derived.Test.YtmnbdhngadjmiaaAk8
namespace Go.Proofs.Ytmnbdhngadjmiaa
open Go.ChangeShapes Go.WideShapes Go.ChangeAt Go.RowKit
set_option linter.unusedVariables false
set_option linter.unusedSimpArgs false
set_option maxRecDepth 20000

section
variable {d : Wd} {R R' : Nat → Prop} {w w' w0 : World} {a st ph k me L Lb m q : Nat} {wk : Value} {zs rs : List Int} {c : Cur} {s : Sig} {n : Int} {A : Option Addr}
theorem lea1_walk (h : Lv d R w a wk c s) (hi : me < s.S.length) (hb : w.cell? ⟨Lb, 0, none⟩ = some (.slice A m q)) (hs : Sl w A m q rs) (hA : ∀ ad, A = some ad → R ad.block) (hm : m ≤ 1000) :
    Calls Try.prog 40 #[tkV a d.W me, ptr Lb] w (PostW d R w a wk nilOut (run (tLeave me rs) c s)) := by
  obtain ⟨W, p, hW, hp, bb, tk, hsz⟩ := one_box w a d.W me
  have HD := Lib.hid (leave_touch (h.below bb) hi (hs.below bb) hA hm)
  have HK := Lib.hid (Kp.new h bb)
  have hb2 := below_read bb hb
  obtain ⟨t0, t1, t2⟩ := tk
  clear h bb hsz hs hA hb
  generalize run (tLeave me rs) c s = o at HD ⊢
  go_enter Try.func40, Try.ntmps40
  go_wp2_with fail
  refine HD.out.mono ?_
  clear HD
  intro e w1 hP
  have hP2 := Post.from_ HK.out hP
  cases o with
  | wait zs st s' =>
    obtain ⟨-, rfl, -⟩ := hP
    exact ⟨rfl, PostW.of hP2 (fun _ _ _ e => by cases e) (fun _ _ _ _ => rfl)⟩
  | ret z c' s' =>
    obtain ⟨-, rfl, -⟩ := hP
    have HE := Lib.hid (PostW.of (e' := .returned (.slice none 0 0)) hP2 (fun _ _ _ _ => rfl) (fun _ _ _ e => by cases e))
    clear hP2 t0 t1 t2 HK hb2
    go_wp2
    go_ret
    exact HE.out
theorem lea1_job (d : Wd) (R : Nat → Prop) (w : World) (hi : me < L) (hb : w.cell? ⟨Lb, 0, none⟩ = some (.slice A m q)) (hL : R Lb) (hs : Sl w A m q rs) (hA : ∀ ad, A = some ad → R ad.block) (hm : m ≤ 1000) : Job d R w 40 me #[ptr Lb] (Inv L 0) (tLeave me rs) nilOut := by
  intro a wk R' w' r1 r2 w1 R1 zs st s r3 r4 h3 h4 h5
  have hsame : ∀ b, R b → w1.heap[b]? = w.heap[b]? := fun b e => (r4 b (r1 b e)).trans (r2 b e)
  exact lea1_walk h5 (by rw [h4.len]; exact hi) (cell_same (hsame _ hL) hb) (hs.keepAt fun ad e _ => hsame _ (hA ad e)) (fun ad e => r3 _ (r1 _ (hA ad e))) hm
theorem drp1_walk (h : Lv d R w a wk c s) (hi : me < s.S.length) (hb : w.cell? ⟨Lb, 0, none⟩ = some (.slice A m q)) (hs : Sl w A m q rs) (hA : ∀ ad, A = some ad → R ad.block) (hm : m ≤ 1000) :
    Calls Try.prog 38 #[tkV a d.W me, ptr Lb] w (PostW d R w a wk nilOut (run (tDrop rs) c s)) := by
  obtain ⟨W, p, hW, hp, bb, tk, hsz⟩ := one_box w a d.W me
  have HD := Lib.hid (drop_touch (me := me) (h.below bb) (hs.below bb) hA hm)
  have HK := Lib.hid (Kp.new h bb)
  have hb2 := below_read bb hb
  obtain ⟨t0, t1, t2⟩ := tk
  clear h bb hsz hs hA hb
  generalize run (tDrop rs) c s = o at HD ⊢
  go_enter Try.func38, Try.ntmps38
  go_wp2_with fail
  refine HD.out.mono ?_
  clear HD
  intro e w1 hP
  have hP2 := Post.from_ HK.out hP
  cases o with
  | wait zs st s' =>
    obtain ⟨-, rfl, -⟩ := hP
    exact ⟨rfl, PostW.of hP2 (fun _ _ _ e => by cases e) (fun _ _ _ _ => rfl)⟩
  | ret z c' s' =>
    obtain ⟨-, rfl, -⟩ := hP
    have HE := Lib.hid (PostW.of (e' := .returned (.slice none 0 0)) hP2 (fun _ _ _ _ => rfl) (fun _ _ _ e => by cases e))
    clear hP2 t0 t1 t2 HK hb2
    go_wp2
    go_ret
    exact HE.out
theorem drp1_job (d : Wd) (R : Nat → Prop) (w : World) (hi : me < L) (hb : w.cell? ⟨Lb, 0, none⟩ = some (.slice A m q)) (hL : R Lb) (hs : Sl w A m q rs) (hA : ∀ ad, A = some ad → R ad.block) (hm : m ≤ 1000) : Job d R w 38 me #[ptr Lb] (Inv L 0) (tDrop rs) nilOut := by
  intro a wk R' w' r1 r2 w1 R1 zs st s r3 r4 h3 h4 h5
  have hsame : ∀ b, R b → w1.heap[b]? = w.heap[b]? := fun b e => (r4 b (r1 b e)).trans (r2 b e)
  exact drp1_walk h5 (by rw [h4.len]; exact hi) (cell_same (hsame _ hL) hb) (hs.keepAt fun ad e _ => hsame _ (hA ad e)) (fun ad e => r3 _ (r1 _ (hA ad e))) hm
/-- Own memory changes, and new blocks come. -/
theorem Idle.own (h : Idle d R w s) (ho : Only R w w') (hs : ∀ b, R' b → R b ∨ (w.heap.size ≤ b ∧ b < w'.heap.size)) : Idle d R' w' s := by
  obtain ⟨FW, h1, h2⟩ := h
  refine ⟨FW, h1.only ho (fun b e r => (h2 b r).2 e), fun b e => ?_⟩
  rcases hs b e with e | e
  · exact ⟨Nat.lt_of_lt_of_le (h2 b e).1 ho.size, (h2 b e).2⟩
  · exact ⟨e.2, fun f => by have := h1.lt b f; omega⟩
/-- append to a row of references: where it lies then. -/
theorem run_pushRf {T : Value} {A : Option Addr} {n c : Nat} {zs ms : List Int} (hown : Row 30 0 w T zs) (hm : Sl w A n c ms) (hl : zs.length + ms.length ≤ 100000) (hA : A ≠ none) :
    ∃ A' m c' w', (Builtin.append_ #[38, 38] 38 #[T, .slice A n c]).run Try.prog w = .ok (.slice A' m c') w' ∧ Row 30 0 w' (.slice A' m c') (zs ++ ms) ∧ w.grownBy w' T.ownBlock ∧ ∀ b, (Value.slice A' m c').ownBlock = some b → T.ownBlock = some b ∨ w.heap.size ≤ b := by
  obtain ⟨i0, hi0, hz0, hz1, hz2⟩ := info_parts rowR.info
  cases A with
  | none => exact absurd rfl hA
  | some ad =>
    have hn := hm.len
    obtain ⟨v', w', h1, h2, h3, h4⟩ := run_push (w := w) 38 38 30 i0 _ 1 8 rowR.under hi0 hz0 hz1 hz2 rfl (by omega) T zs.length (ints zs) hown ad n c (ints ms) (by rw [ints_length, hn]; omega)
      (by
        intro j u hj
        rcases hm.cells with e | ⟨b, off, e, hc⟩
        · subst e; simp [ints] at hj
        · have e := Option.some.inj e
          subst e
          obtain ⟨z, hz, rfl⟩ := ints_at hj
          rw [add_lit0]
          exact hc j z hz) (ints_one _) (by unfold maxLen; omega) (by omega)
    have h2' : Row 30 0 w' v' (zs ++ ms) := by
      unfold Row
      rw [List.length_append, ← hn, ints_append]
      exact h2
    obtain ⟨A', c', e, _⟩ := h2'.form
    rw [List.length_append, ← hn] at e
    subst e
    exact ⟨A', _, c', w', h1, h2', h3, h4⟩
/-- A law's list of nodes, in a variable, beside a world. -/
structure LL (W : World) (d : Wd) (s : Sig) (Lb : Nat) (T : Value) (rs : List Int) (wr : World) : Prop where
  idle : Idle d (fun b => b < W.heap.size ∨ b = Lb ∨ T.ownBlock = some b) wr s
  below : Below W.heap.size W wr
  box : wr.heap[Lb]? = some (.cells #[T] 38 (0, 0))
  row : Row 30 0 wr T rs
  lb : W.heap.size ≤ Lb
  lt : ∀ b, T.ownBlock = some b → W.heap.size ≤ b
theorem LL.ow {W : World} {T : Value} (h : LL W d s Lb T rs w) : Ow W d s w := ⟨h.idle.mono fun b e => .inl e, h.below⟩
theorem LL.cell {W : World} {T : Value} (h : LL W d s Lb T rs w) : w.cell? ⟨Lb, 0, none⟩ = some T := by rw [cell_of_row w Lb _ _ _ (0, 0) h.box]; rfl
theorem LL.free {W : World} {T : Value} (h : LL W d s Lb T rs w) : w.frozen? ⟨Lb, 0, none⟩ = false := frozen_of_row w Lb 0 _ _ h.box
/-- A new variable. -/
theorem LL.new {W : World} (h : Ow W d s w) : LL W d s w.heap.size (.slice none 0 0) [] (w.alloc (.cells #[.slice none 0 0] 38)) := by
  have hb := below_new w (.cells #[.slice none 0 0] 38)
  refine ⟨h.idle.more hb ?_, h.below.trans (hb.mono h.below.size), heap_alloc_new _ _, Row.nil _ _ _, h.below.size, fun b e => (by cases e)⟩
  rintro b (e | e | e)
  · exact .inl e
  · exact .inr ⟨by omega, by simp; omega⟩
  · cases e
/-- A call of the world's. -/
theorem LL.nx {W : World} {T : Value} {s' : Sig} (h : LL W d s Lb T rs w) (hk : ∀ FW, WS d FW w s → NxW d FW w s' w') : LL W d s' Lb T rs w' := by
  obtain ⟨⟨FW, h1, h2⟩, hb, hx, hr, hl, ht⟩ := h
  obtain ⟨k1, k2⟩ := Idle.nx h1 h2 (hk FW h1)
  exact ⟨k1, hb.trans (kp_below (k2.mono fun b e => .inl e)), (k2.block _ (.inr (.inl rfl))).trans hx, own_at hr fun b e => k2.block _ (.inr (.inr e)), hl, ht⟩
theorem LL.bel {W : World} {T : Value} (h : LL W d s Lb T rs w) (hb : Below w.heap.size w w') : LL W d s Lb T rs w' := by
  obtain ⟨hi, h0, hx, hr, hl, ht⟩ := h
  have hlt := hi.lt
  exact ⟨hi.more hb (fun b e => .inl e), h0.trans (hb.mono h0.size), (hb.block _ (hlt _ (.inr (.inl rfl)))).trans hx, own_at hr fun b e => hb.block _ (hlt _ (.inr (.inr e))), hl, ht⟩
/-- A node is appended. -/
theorem LL.push {W : World} {T : Value} {r : Int} (h : LL W d s Lb T rs w) (hl : rs.length ≤ 1000) : ∃ A' m' c' Z, (Builtin.append_ #[38, 38] 38 #[T, .slice (some ⟨w.heap.size, 0, none⟩) 1 1]).run Try.prog (w.alloc (.cells #[.int .i64 r] 30)) = .ok (.slice A' m' c') Z ∧
    Z.cell? ⟨Lb, 0, none⟩ = some T ∧ Z.frozen? ⟨Lb, 0, none⟩ = false ∧ LL W d s Lb (.slice A' m' c') (rs ++ [r]) (Z.setCell ⟨Lb, 0, none⟩ (.slice A' m' c')) := by
  have hb := below_new w (.cells #[.int .i64 r] 30)
  have h1 := h.bel hb
  have hlt := h1.idle.lt
  obtain ⟨A', m', c', Z, hrun, r5, g5, l5⟩ := run_pushRf h1.row (sl_one (c_new rfl rfl)) (by simp; omega) (by simp)
  have hnT : T.ownBlock ≠ some Lb := fun e => by
    have := own_ty h1.row e
    exact absurd (this.one ⟨_, h1.box⟩) (by decide)
  have hbZ : Z.heap[Lb]? = some (.cells #[T] 38 (0, 0)) := (g5.block Lb (hlt _ (.inr (.inl rfl))) (fun e => hnT e.symm)).trans h1.box
  have ho : Only (fun b => b < W.heap.size ∨ b = Lb ∨ T.ownBlock = some b) (w.alloc (.cells #[.int .i64 r] 30)) (Z.setCell ⟨Lb, 0, none⟩ (.slice A' m' c')) := (Only.grown _ g5 fun b e => .inr (.inr e)).then (Only.set _ Z (p := ⟨Lb, 0, none⟩) (.inr (.inl rfl)) _)
  have hbl : ∀ b, (Value.slice A' m' c').ownBlock = some b → b < Z.heap.size := fun b e => (World.ownsRow.lt r5 b e).2
  refine ⟨A', m', c', Z, hrun, by rw [cell_of_row Z Lb _ _ _ (0, 0) hbZ]; rfl, frozen_of_row Z Lb 0 _ _ hbZ, h1.idle.own ho ?_, ?_, heap_setCell_same Z Lb 0 _ _ _ hbZ, own_set r5 ⟨_, hbZ⟩ (by decide) _, h.lb, ?_⟩
  · rintro b (e | e | e)
    · exact .inl (.inl e)
    · exact .inl (.inr (.inl e))
    · rcases l5 b e with e' | e'
      · exact .inl (.inr (.inr e'))
      · exact .inr ⟨e', by simpa using hbl b e⟩
  · refine h1.below.trans ?_
    refine ⟨ho.os, ho.tape, ho.output, ho.size, fun k hk => ?_⟩
    rw [heap_setCell_other Z ⟨Lb, 0, none⟩ k _ (fun e => by have := h.lb; simp only at e; omega)]
    refine g5.block k (Nat.lt_of_lt_of_le hk h1.below.size) (fun e => ?_)
    have := h1.lt k e.symm
    omega
  · intro b e
    rcases l5 b e with e' | e'
    · exact h1.lt b e'
    · exact Nat.le_trans h1.below.size e'
/-- Behind an operation alone. -/
theorem LL.alone {α : Type} {W : World} {T : Value} {out : α → List Int} {r : α × Sig × Nat} {e : Ending} (h : LL W d s Lb T rs w) (hP : AloneP d (fun b => b < W.heap.size ∨ b = Lb ∨ T.ownBlock = some b) w out r e w') : ∃ A n c, e = .returned (.tuple #[.slice A n c, .int .i64 ((max r.2.2 1 : Nat) : Int), .bool true]) ∧ LL W d r.2.1 Lb T rs w' := by
  obtain ⟨A, n, c, rfl, h1, h2, h3⟩ := hP
  exact ⟨A, n, c, rfl, h2.mono fun b e => .inl e, h.below.trans (kp_below (h3.mono fun b e => .inl e)), (h3.block _ (.inr (.inl rfl))).trans h.box, own_at h.row fun b e => h3.block _ (.inr (.inr e)), h.lb, h.lt⟩
end
end Go.Proofs.Ytmnbdhngadjmiaa
