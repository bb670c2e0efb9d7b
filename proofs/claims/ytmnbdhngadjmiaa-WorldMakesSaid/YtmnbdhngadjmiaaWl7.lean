/-
  What epoch's Leave, ready and Ready return, and what the epochs are behind them.
-/
import Derived.Test.YtmnbdhngadjmiaaWk7
namespace Go.Proofs.Ytmnbdhngadjmiaa
open Go.ChangeShapes Go.WideShapes Go.ChangeAt Go.RowKit
set_option linter.unusedVariables false
set_option linter.unusedSimpArgs false
set_option maxRecDepth 20000

section
variable {F G : Nat → Prop} {w w' : World} {a i : Nat} {now t z at_ : Int} {S : List Tq} {q : List (Int × Int)} {s : Int}
theorem leave_no (h : EpS F w a now S) (ht : t < 0 ∨ (S.length : Int) ≤ t) : Calls Try.prog 30 #[ptr a, .int .i64 t, .int .i64 z, .int .i64 at_] w fun e w' => e = .returned (.tuple #[]) ∧ w = w' := by
  obtain ⟨l, T, h, rfl⟩ := h
  rw [List.length_map] at ht
  have ht := thread_no h ht
  clear h
  go_enter Try.func30, Try.ntmps30
  go_wp2_with fail
  refine ht.mono ?_
  rintro e w1 ⟨rfl, rfl⟩
  go_wp2
  ((try simp only [Exit.inBlock, Exit.then]); refine bodyPost_end (results_none rfl _ _ _) rfl ?_)
  exact ⟨rfl, rfl⟩
theorem leave_nil (w : World) (t z at_ : Int) : Calls Try.prog 30 #[nilp, .int .i64 t, .int .i64 z, .int .i64 at_] w fun e w' => e = .returned (.tuple #[]) ∧ w = w' := by
  go_enter Try.func30, Try.ntmps30
  go_wp2_with fail
  refine (thread_nil _ _).mono ?_
  rintro e w1 ⟨rfl, rfl⟩
  go_wp2
  ((try simp only [Exit.inBlock, Exit.then]); refine bodyPost_end (results_none rfl _ _ _) rfl ?_)
  exact ⟨rfl, rfl⟩
theorem nx_after {W : World} (hb : Below w.heap.size w W) (h : NxE F W a now S w') : NxE F w a now S w' := by
  obtain ⟨F', h1, h2, h3⟩ := h
  exact ⟨F', h1, (Only.of_below F hb).then h2, fun b e => (h3 b e).imp id (fun e => Nat.le_trans hb.size e)⟩
set_option maxHeartbeats 1000000 in
theorem leave_yes (h : EpS F w a now S) (hi : S[i]? = some (s, q)) (hq : q.length ≤ 100000) : Calls Try.prog 30 #[ptr a, .int .i64 (i : Int), .int .i64 z, .int .i64 at_] w fun e w' => e = .returned (.tuple #[]) ∧ NxE F w a now (S.set i (s, q ++ [(z, at_)])) w' := by
  obtain ⟨l, T, x, k, rfl, hx, hxy⟩ := h.at_ hi
  clear h
  obtain ⟨g, c, hT, -, -, hil, -, -, -⟩ := k.at_ hx
  have ht := Lib.hid (thread_yes k hil hT)
  obtain ⟨W, hW, hbW, y0, y1⟩ : ∃ W : World, w.alloc (.cells #[.int .i64 z, .int .i64 at_] goT) = W ∧ Below w.heap.size w W ∧ W.cell? ⟨w.heap.size, 0, none⟩ = some (.int .i64 z) ∧ W.cell? ⟨w.heap.size, 1, none⟩ = some (.int .i64 at_) := ⟨_, rfl, below_new _ _, c_new rfl rfl, c_new rfl rfl⟩
  obtain ⟨g', c', hT', -, -, -, c0', c1', -⟩ := k.at_ hx
  have k2 := k.below hbW
  obtain ⟨g2, c2, hT2, -, -, -, c0, c1, hf⟩ := k2.at_ hx
  rw [hT] at hT2 hT'
  injection hT2 with hT2 _ _
  injection hT2 with hT2
  injection hT2 with hT2
  subst hT2
  injection hT' with hT' _ _
  injection hT' with hT'
  injection hT' with hT'
  subst hT'
  have hqu : Qu goT W x.2 q := by have := k2.qs.que x (List.mem_of_getElem? hx); rw [hxy] at this; exact this
  obtain ⟨v', w', hr, hq2, hg2, hb2⟩ := hqu.push paE 99 w.heap.size (p := (z, at_)) y0 y1 hq
  obtain ⟨A', d', hv'⟩ := hq2.form
  subst hv'
  obtain ⟨A, d, hv⟩ := hqu.form
  obtain ⟨hn, e1, e2⟩ := k2.queue hx hg2 hq2 hb2 hT
  rw [hv] at hr e1 c1 c1'
  rw [hxy] at hn
  have HE := Lib.hid (nx_after hbW hn)
  generalize q.length = m at *
  generalize (q ++ [(z, at_)]).length = m' at *
  clear hn hq2 hg2 hb2 hqu k2 k hv hf hbW c0 y0 y1 hT hi hx hxy hq c0' hil
  go_enter Try.func30, Try.ntmps30
  go_wp2_with fail
  refine ht.out.mono ?_
  rintro e w1 ⟨rfl, rfl⟩
  go_wp2_with (at_builtin; (first | rw [hW] | skip); refine Lib.wpList_append_run _ rfl _ _ _ _ rfl _ _ rfl rfl _ _ hr ?_)
  ((try simp only [Exit.inBlock, Exit.then]); refine bodyPost_end (results_none rfl _ _ _) rfl ?_)
  exact ⟨rfl, HE.out⟩

/-- Ready: by three, or more, above. -/
def rdy (at_ now : Int) : Bool := decide (at_ + 3 ≤ now)
theorem ready_walk (w : World) (z at_ n : Int) (h1 : -9223372036854775808 ≤ at_) (h2 : n ≤ 9223372036854775807) : Calls Try.prog 72 #[.agg #[.int .i64 z, .int .i64 at_], .int .i64 n] w fun e w' => e = .returned (.bool (rdy at_ n)) ∧ Below w.heap.size w w' := by
  by_cases h3 : -9223372036854775805 ≤ n
  · have h4 : IntKind.i64.wrap (n - 3) = n - 3 := IntWalk.i64_in _ (by omega)
    have h5 : decide (at_ ≤ n - 3) = rdy at_ n := by unfold rdy; congr 1; apply propext; omega
    have H5 := Lib.hid h5
    clear h5
    go_enter Try.func72, Try.ntmps72
    go_wp2
    go_ret
    exact ⟨ret_bool H5.out, below_new _ _⟩
  · have h4 : decide (-9223372036854775805 ≤ n) = false := by simpa using h3
    have h5 : rdy at_ n = false := by unfold rdy; simp; omega
    rw [h5]
    clear h5
    go_enter Try.func72, Try.ntmps72
    go_wp2
    go_ret
    exact ⟨rfl, below_new _ _⟩

theorem rd_no (h : EpS F w a now S) (n : Int) (ht : t < 0 ∨ (S.length : Int) ≤ t) : Calls Try.prog 42 #[ptr a, .int .i64 t, .int .i64 n] w fun e w' => e = .returned (.int .i64 0) ∧ w = w' := by
  obtain ⟨l, T, h, rfl⟩ := h
  rw [List.length_map] at ht
  have ht := thread_no h ht
  clear h
  go_enter Try.func42, Try.ntmps42
  go_wp2_with fail
  refine ht.mono ?_
  rintro e w1 ⟨rfl, rfl⟩
  go_wp2
  go_ret
  exact ⟨rfl, rfl⟩
theorem rd_nil (w : World) (t n : Int) : Calls Try.prog 42 #[nilp, .int .i64 t, .int .i64 n] w fun e w' => e = .returned (.int .i64 0) ∧ w = w' := by
  go_enter Try.func42, Try.ntmps42
  go_wp2_with fail
  refine (thread_nil _ _).mono ?_
  rintro e w1 ⟨rfl, rfl⟩
  go_wp2
  go_ret
  exact ⟨rfl, rfl⟩
theorem rd_empty (h : EpS F w a now S) (n : Int) (hi : S[i]? = some (s, [])) : Calls Try.prog 42 #[ptr a, .int .i64 (i : Int), .int .i64 n] w fun e w' => e = .returned (.int .i64 0) ∧ w = w' := by
  obtain ⟨l, T, x, k, rfl, hx, hxy⟩ := h.at_ hi
  clear h
  obtain ⟨g, c, hT, -, -, hil, c0, c1, -⟩ := k.at_ hx
  have ht := Lib.hid (thread_yes k hil hT)
  have hqu := k.qs.que x (List.mem_of_getElem? hx)
  rw [hxy] at hqu
  obtain ⟨A, d, hv⟩ := hqu.form
  rw [hv] at c1
  simp only [List.length_nil] at c1
  clear k hqu hv hT hi hx hxy c0 hil
  go_enter Try.func42, Try.ntmps42
  go_wp2_with fail
  refine ht.out.mono ?_
  rintro e w1 ⟨rfl, rfl⟩
  go_wp2
  go_ret
  exact ⟨rfl, rfl⟩
set_option maxHeartbeats 1000000 in
theorem rd_wait (h : EpS F w a now S) (n : Int) {p : Int × Int} (hi : S[i]? = some (s, p :: q)) (h1 : -9223372036854775808 ≤ p.2) (h2 : n ≤ 9223372036854775807) (hr : rdy p.2 n = false) : Calls Try.prog 42 #[ptr a, .int .i64 (i : Int), .int .i64 n] w fun e w' => e = .returned (.int .i64 0) ∧ Below w.heap.size w w' := by
  obtain ⟨l, T, x, k, rfl, hx, hxy⟩ := h.at_ hi
  clear h
  obtain ⟨g, c, hT, -, -, hil, c0, c1, -⟩ := k.at_ hx
  have ht := Lib.hid (thread_yes k hil hT)
  have hqu := k.qs.que x (List.mem_of_getElem? hx)
  rw [hxy] at hqu
  obtain ⟨g1, off, d, hv, hd, b0, b1⟩ := hqu.first
  rw [hv] at c1
  have HR := Lib.hid hr
  generalize q.length = m at *
  have m1 : ((m : Int) + 1 == 0) = false := by simp; omega
  have m2 : (0 : Int) < ((m : Int) + 1) := by omega
  have m3 : (((m + 1 : Nat) : Int) == 0) = false := by simp; omega
  clear k hqu hv hT hi hx hxy c0 hil hr
  obtain ⟨p1, p2⟩ := p
  simp only at h1 b0 b1 HR
  go_enter Try.func42, Try.ntmps42
  go_wp2_with fail
  refine ht.out.mono ?_
  rintro e w1 ⟨rfl, rfl⟩
  go_wp2_with fail
  refine (ready_walk _ p1 p2 n h1 h2).mono ?_
  rintro e w1 ⟨rfl, hb⟩
  rw [HR.out]
  go_wp2
  go_ret
  exact ⟨rfl, hb⟩
set_option maxHeartbeats 1000000 in
theorem rd_take (h : EpS F w a now S) (n : Int) {p : Int × Int} (hi : S[i]? = some (s, p :: q)) (h1 : -9223372036854775808 ≤ p.2) (h2 : n ≤ 9223372036854775807) (hr : rdy p.2 n = true) : Calls Try.prog 42 #[ptr a, .int .i64 (i : Int), .int .i64 n] w fun e w' => e = .returned (.int .i64 p.1) ∧ NxE F w a now (S.set i (s, q)) w' := by
  obtain ⟨l, T, x, k, rfl, hx, hxy⟩ := h.at_ hi
  clear h
  obtain ⟨g, c, hT, -, -, hil, c0, c1, -⟩ := k.at_ hx
  have ht := Lib.hid (thread_yes k hil hT)
  have hqu := k.qs.que x (List.mem_of_getElem? hx)
  rw [hxy] at hqu
  obtain ⟨g1, off, d, hv, hd, b0, b1⟩ := hqu.first
  rw [hv] at c1
  have HR := Lib.hid hr
  have KK := Lib.hid k
  have HX := Lib.hid hx
  have HXY := Lib.hid hxy
  have HV := Lib.hid hv
  have HT := Lib.hid hT
  have m1 : ((q.length : Int) + 1 == 0) = false := by simp; omega
  have m2 : (0 : Int) < ((q.length : Int) + 1) := by omega
  have m3 : (((q.length + 1 : Nat) : Int) == 0) = false := by simp; omega
  clear k hqu hv hT hi hx hxy c0 hil hr
  obtain ⟨p1, p2⟩ := p
  simp only at h1 b0 b1 HR HXY
  go_enter Try.func42, Try.ntmps42
  go_wp2_with fail
  refine ht.out.mono ?_
  rintro e w1 ⟨rfl, rfl⟩
  go_wp2_with fail
  refine (ready_walk _ p1 p2 n h1 h2).mono ?_
  rintro e w1 ⟨rfl, hb⟩
  rw [HR.out]
  have k := KK.out.below hb
  have hqu := k.qs.que x (List.mem_of_getElem? HX.out)
  rw [HXY.out, HV.out] at hqu
  obtain ⟨A', d', hq2, hqb, hrun⟩ := hqu.tail paE
  obtain ⟨hn, e1, e2⟩ := k.queue HX.out (World.grownBy.refl _ _) hq2 (fun b e => .inl (by rw [HV.out]; exact hqb b e)) HT.out
  rw [HXY.out] at hn
  rw [HV.out] at e1
  have b0' := below_read hb b0
  have b1' := below_read hb b1
  have HE := Lib.hid (nx_after hb hn)
  clear hn hq2 hqb hqu k c1 b0 b1 KK HX HXY HV HT hb
  go_wp2
  go_ret
  exact ⟨rfl, HE.out⟩
end
end Go.Proofs.Ytmnbdhngadjmiaa
