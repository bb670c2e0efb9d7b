/-
  What world's Make, Drop and Leave come to within work.
-/
import Derived.Test.YtmnbdhngadjmiaaJb8
namespace Go.Proofs.Ytmnbdhngadjmiaa
open Go.ChangeShapes Go.WideShapes Go.ChangeAt Go.RowKit
set_option linter.unusedVariables false
set_option linter.unusedSimpArgs false
set_option maxRecDepth 20000

/-- A value reads as a node, in memory of R. -/
def RdR (R : Nat → Prop) (w : World) (v : Value) (nd : Nd) : Prop :=
  ∃ A c B d C q, v = ndv nd.inn nd.tag (.slice A nd.ps.length c) (.slice B nd.ks.length d) (.slice C nd.zs.length q) ∧ Lp w A nd.ps.length c nd.ps ∧ Sl w B nd.ks.length d nd.ks ∧ Sl w C nd.zs.length q nd.zs ∧ ∀ ad : Addr, A = some ad ∨ B = some ad ∨ C = some ad → R ad.block
section
variable {d : Wd} {R R' FW : Nat → Prop} {w w' w0 w1 : World} {a st ph k me B N : Nat} {wk v : Value} {zs : List Int} {c : Cur} {s : Sig} {n : Int} {nd : Nd}
theorem RdR.nil (R : Nat → Prop) (w : World) (x y : Bool) : RdR R w (ndv x y (.slice none 0 0) (.slice none 0 0) (.slice none 0 0)) ⟨x, y, [], [], []⟩ :=
  ⟨none, 0, none, 0, none, 0, rfl, Lp.nil _, Sl.nil _, Sl.nil _, fun ad e => by rcases e with e | e | e <;> cases e⟩
theorem RdR.rdF (h : RdR R w v nd) (hR : ∀ b, R b → w1.heap[b]? = w.heap[b]? ∧ ¬ FW b) : RdF FW w1 v nd := by
  obtain ⟨A, c, B, d, C, q, e, h1, h2, h3, h4⟩ := h
  exact ⟨A, c, B, d, C, q, e, h1.keepAt fun ad e _ => (hR _ (h4 ad (.inl e))).1, h2.keepAt fun ad e _ => (hR _ (h4 ad (.inr (.inl e)))).1, h3.keepAt fun ad e _ => (hR _ (h4 ad (.inr (.inr e)))).1, fun ad e => (hR _ (h4 ad e)).2⟩
set_option maxHeartbeats 1000000 in
theorem make1_walk {x y : Bool} {pv kv zv : Value} (h : WS d FW w s) (hf : Fit s) (hB : Tk w B a d.W me) (h5 : Five w N x y pv kv zv) (hv : RdF FW w (ndv x y pv kv zv) nd) (hs : nd.small) (nB : ¬ FW B) (nN : ¬ FW N) :
    Calls Try.prog 68 #[ptr B, ptr N] w fun e w' => e = .returned (intV (gMake nd s).1) ∧ NxW d FW w (gMake nd s).2 w' := by
  have h0 := hB.c1
  have h2 := h.cells.1
  obtain ⟨f0, f1, f2, f3, f4⟩ := h5.cells
  have hv2 : RdF FW w.drew (ndv x y pv kv zv) nd := by
    obtain ⟨A, c, B, d, C, q, e, h1, h2, h3, h4⟩ := hv
    exact ⟨A, c, B, d, C, q, e, ⟨h1.lf.drew, h1.cap, h1.none_⟩, h2.drew, h3.drew, h4⟩
  have HS := Lib.hid (nxW_make (drew_W h) hf.ok hf.fr hv2 hs)
  have hC0 : w.drew.cell? ⟨B, 1, none⟩ = some (ptr d.W) ∧ w.drew.cell? ⟨d.W, 0, none⟩ = some (ptr d.A) ∧ w.drew.cell? ⟨N, 0, none⟩ = some (.bool x) ∧ w.drew.cell? ⟨N, 1, none⟩ = some (.bool y) ∧ w.drew.cell? ⟨N, 2, none⟩ = some pv ∧ w.drew.cell? ⟨N, 3, none⟩ = some kv ∧ w.drew.cell? ⟨N, 4, none⟩ = some zv := ⟨h0, h2, f0, f1, f2, f3, f4⟩
  clear hB h h0 h2 f0 f1 f2 f3 f4 h5 hv hv2
  go_enter Try.func68, Try.ntmps68
  go_wp2_with fail
  refine region_T (fun _ => false) (fun w' => w'.cell? ⟨B, 1, none⟩ = some (ptr d.W) ∧ w'.cell? ⟨d.W, 0, none⟩ = some (ptr d.A) ∧ w'.cell? ⟨N, 0, none⟩ = some (.bool x) ∧ w'.cell? ⟨N, 1, none⟩ = some (.bool y) ∧ w'.cell? ⟨N, 2, none⟩ = some pv ∧ w'.cell? ⟨N, 3, none⟩ = some kv ∧ w'.cell? ⟨N, 4, none⟩ = some zv) (by kernel_rfl) ?_
  have hC := hC0
  refine takeW (i := 0) (v := ?_) rfl (by kernel_rfl) (by kernel_rfl) (by kernel_rfl) (by kernel_rfl) (by kernel_rfl) (fun _ _ _ h => h) hC (by rfl) ?_ ?_
  rotate_left
  · intro w hSw; (try dsimp only at hSw); go_simp; try (with_reducible rfl)
  try simp only [Act.put, List.setIfInBounds_toArray, List.set_cons_zero, List.set_cons_succ]
  refine takeW (i := 1) (v := ?_) rfl (by kernel_rfl) (by kernel_rfl) (by kernel_rfl) (by kernel_rfl) (by kernel_rfl) (fun _ _ _ h => h) hC (by rfl) ?_ ?_
  rotate_left
  · intro w hSw; (try dsimp only at hSw); go_simp; try (with_reducible rfl)
  try simp only [Act.put, List.setIfInBounds_toArray, List.set_cons_zero, List.set_cons_succ]
  refine takeW (i := 2) (v := ?_) rfl (by kernel_rfl) (by kernel_rfl) (by kernel_rfl) (by kernel_rfl) (by kernel_rfl) (fun _ _ _ h => h) hC (by rfl) ?_ ?_
  rotate_left
  · intro w hSw; (try dsimp only at hSw); go_simp; try (with_reducible rfl)
  try simp only [Act.put, List.setIfInBounds_toArray, List.set_cons_zero, List.set_cons_succ]
  refine takeW (i := 3) (v := ?_) rfl (by kernel_rfl) (by kernel_rfl) (by kernel_rfl) (by kernel_rfl) (by kernel_rfl) (fun _ _ _ h => h) hC (by rfl) ?_ ?_
  rotate_left
  · intro w hSw; (try dsimp only at hSw); go_simp; try (with_reducible rfl)
  try simp only [Act.put, List.setIfInBounds_toArray, List.set_cons_zero, List.set_cons_succ]
  refine takeW (i := 4) (v := ?_) rfl (by kernel_rfl) (by kernel_rfl) (by kernel_rfl) (by kernel_rfl) (by kernel_rfl) (fun _ _ _ h => h) hC (by rfl) ?_ ?_
  rotate_left
  · intro w hSw; (try dsimp only at hSw); go_simp; try (with_reducible rfl)
  try simp only [Act.put, List.setIfInBounds_toArray, List.set_cons_zero, List.set_cons_succ]
  refine takeW (i := 5) (v := ?_) rfl (by kernel_rfl) (by kernel_rfl) (by kernel_rfl) (by kernel_rfl) (by kernel_rfl) (fun _ _ _ h => h) hC (by rfl) ?_ ?_
  rotate_left
  · intro w hSw; (try dsimp only at hSw); go_simp; try (with_reducible rfl)
  try simp only [Act.put, List.setIfInBounds_toArray, List.set_cons_zero, List.set_cons_succ]
  refine oneT (i := 6) (by kernel_rfl) rfl (by rfl) (fun K hK => ?_)
  go_simp
  refine HS.out.mono ?_
  rintro e w' ⟨b, rfl, hn⟩
  have hC1 : w'.cell? ⟨B, 1, none⟩ = some (ptr d.W) ∧ w'.cell? ⟨d.W, 0, none⟩ = some (ptr d.A) ∧ w'.cell? ⟨N, 0, none⟩ = some (.bool x) ∧ w'.cell? ⟨N, 1, none⟩ = some (.bool y) ∧ w'.cell? ⟨N, 2, none⟩ = some pv ∧ w'.cell? ⟨N, 3, none⟩ = some kv ∧ w'.cell? ⟨N, 4, none⟩ = some zv := by
    obtain ⟨FW', r1, r2, r3⟩ := hn
    exact ⟨only_read r2 nB hC.1, r1.cells.1, only_read r2 nN hC.2.2.1, only_read r2 nN hC.2.2.2.1, only_read r2 nN hC.2.2.2.2.1, only_read r2 nN hC.2.2.2.2.2.1, only_read r2 nN hC.2.2.2.2.2.2⟩
  refine hK.out _ _ (fun _ => hC1) ?_
  have HN := Lib.hid (gone_drew hn)
  clear hK K hC HS hn hC0
  have hC := hC1
  clear hC1
  try simp only [Act.put, List.setIfInBounds_toArray, List.set_cons_zero, List.set_cons_succ]
  refine takeW (i := 7) (v := ?_) rfl (by kernel_rfl) (by kernel_rfl) (by kernel_rfl) (by kernel_rfl) (by kernel_rfl) (fun _ _ _ h => h) hC (by rfl) ?_ ?_
  rotate_left
  · intro w hSw; (try dsimp only at hSw); go_simp; try (with_reducible rfl)
  try simp only [Act.put, List.setIfInBounds_toArray, List.set_cons_zero, List.set_cons_succ]
  refine takeW (i := 8) (v := ?_) rfl (by kernel_rfl) (by kernel_rfl) (by kernel_rfl) (by kernel_rfl) (by kernel_rfl) (fun _ _ _ h => h) hC (by rfl) ?_ ?_
  rotate_left
  · intro w hSw; (try dsimp only at hSw); go_simp; try (with_reducible rfl)
  try simp only [Act.put, List.setIfInBounds_toArray, List.set_cons_zero, List.set_cons_succ]
  refine takeW (i := 9) (v := ?_) rfl (by kernel_rfl) (by kernel_rfl) (by kernel_rfl) (by kernel_rfl) (by kernel_rfl) (fun _ _ _ h => h) hC (by rfl) ?_ ?_
  rotate_left
  · intro w hSw; (try dsimp only at hSw); go_simp; try (with_reducible rfl)
  try simp only [Act.put, List.setIfInBounds_toArray, List.set_cons_zero, List.set_cons_succ]
  refine oneT (i := 10) (by kernel_rfl) rfl (by rfl) (fun K hK => ?_)
  go_simp
  refine hK.out _ _ (fun _ => hC) ?_
  clear hK K
  try simp only [Act.put, List.setIfInBounds_toArray, List.set_cons_zero, List.set_cons_succ]
  refine oneT (i := 11) (by kernel_rfl) rfl (by rfl) (fun K hK => ?_)
  go_simp
  refine hK.out _ _ (fun _ => hC) ?_
  clear hK K
  try simp only [Act.put, List.setIfInBounds_toArray, List.set_cons_zero, List.set_cons_succ]
  refine doneT (by kernel_rfl) ?_
  clear hC
  go_wp2
  go_ret
  exact ⟨rfl, HN.out⟩
theorem three_boxes (w : World) (a W me : Nat) (x y : Bool) (pv kv zv : Value) : ∃ (X : World) (p q : Nat), (w.alloc (.cells #[ptr a, ptr W, .int .i64 (me : Int)] tkT)).alloc (.cells #[.bool x, .bool y, pv, kv, zv] 42) = X ∧ w.heap.size = p ∧ p + 1 = q ∧ Below w.heap.size w X ∧ Tk X p a W me ∧ Five X q x y pv kv zv ∧ X.heap.size = q + 1 :=
  ⟨_, _, _, rfl, rfl, rfl, ((Below.refl _ w).alloc (Nat.le_refl _) _).alloc (by simp) _, (Tk.new w a W me).cells (Below.heap_alloc _ _ _ (by simp)), Five.new _ (by simp) _ _ _ _ _, by simp⟩
theorem RdR.form (h : RdR R w v nd) : ∃ x y pv kv zv, v = ndv x y pv kv zv := by
  obtain ⟨A, c, B, d, C, q, e, _⟩ := h; exact ⟨_, _, _, _, _, e⟩
/-- Make. -/
theorem make_touch (h : Lv d R w a wk c s) (hv : RdR R w v nd) (hs : nd.small) :
    Calls Try.prog 37 #[tkV a d.W me, v] w (Post d R w a wk intV (run (tDo (gMake nd)) c s)) := by
  have e3 := mk_fn
  obtain ⟨x, y, pv, kv, zv, rfl⟩ := hv.form
  obtain ⟨W, p, q, hW, hp, hq, bb, tk, h5, hsz⟩ := three_boxes w a d.W me x y pv kv zv
  have h1 : Lv d (fun b => R b ∨ b = p ∨ b = q) W a wk c s := h.more bb (fun b e => e.imp id fun e => by omega)
  have HD := Lib.hid (node_touch (me := me) (f := 68) (cap := #[ptr p, ptr q]) (g := gMake nd) (fun W => rfl) h1 (fun _ => make_in) (by
    intro hl w1 FW hWS hR hsz
    refine make1_walk hWS (h.fit hl) (tk.cells (hR _ (.inr (.inl rfl))).1) ((hR _ (.inr (.inr rfl))).1.trans h5) (hv.rdF fun b e => ⟨(hR b (.inl e)).1.trans (bb.block b (h.lt b e)), (hR b (.inl e)).2⟩) hs (hR _ (.inr (.inl rfl))).2 (hR _ (.inr (.inr rfl))).2))
  have HK := Lib.hid (Kp.new h bb)
  obtain ⟨t0, t1, t2⟩ := tk
  clear h bb h5 h1 hsz hv
  generalize run (tDo (gMake nd)) c s = o at HD ⊢
  go_enter Try.func37, Try.ntmps37
  go_wp2_with fail
  refine HD.out.mono ?_
  clear HD
  rintro e w1 hP
  have hP2 := Post.from_ HK.out (hP.mono fun b e => .inl e)
  cases o with
  | wait zs st s' =>
    obtain ⟨k1, rfl, k2⟩ := hP2
    exact ⟨rfl, k1, rfl, k2⟩
  | ret z c' s' =>
    obtain ⟨k1, rfl, k2⟩ := hP
    have HE := Lib.hid hP2
    clear k1 k2 hP2 t0 t1 t2
    go_wp2
    go_ret
    exact HE.out
end
end Go.Proofs.Ytmnbdhngadjmiaa
