/-
  The laws' work that loads some nodes and stores; what starts it.
-/
import Derived.Test.YtmhmgdpcibldlaaSo10
import Derived.Test.YtmhmgdpcibldlaaSn10
namespace Go.Proofs.Ytmhmgdpcibldlaa
open Go.ChangeShapes Go.WideShapes Go.ChangeAt Go.RowKit
set_option linter.unusedVariables false
set_option linter.unusedSimpArgs false
set_option maxRecDepth 20000

def stZ (y : Bool × Bool) : Int := if y.2 = true then 2 else if y.1 = true then 1 else 0
def tChange (M : Nat) (prs : List (Int × Nd)) (kp wy od nw : Int) : Tr (List Int) := (tLoads [] prs).bind fun x => if x.2 = true then (tStore M x.1 kp wy od nw).bind fun y => .ret [stZ y] else .ret [-1]
section
variable {nds : List (Int × Nd)} {M L : Nat} {s : Sig} {kp wy od nw : Int}
theorem kpL_bindR {α β : Type} {Q : α → Prop} {t : Tr α} {K : α → Tr β} (ht : kpL nds M t) (hr : rets Q t) (hK : ∀ v, Q v → kpL nds M (K v)) : kpL nds M (t.bind K) := by
  induction t with
  | ret v => exact hK v hr
  | tch g K' ih => exact ⟨ht.1, fun z => ih z (ht.2 z) (hr z)⟩
  | lk n K' ih => exact fun r h1 h2 => ih r (ht r h1 h2) (hr r)
theorem kl_change {prs : List (Int × Nd)} (hl : prs.length ≤ 20) (hn : in64 nw) : kpL nds M (tChange M prs kp wy od nw) :=
  kpL_bindR (kl_loads [] prs) (rets_loads [] prs) fun x hx => kl_if (kpL_bind (kl_store (by simp at hx; omega) hn) fun y => trivial) trivial
theorem good_change (M : Nat) (prs : List (Int × Nd)) (kp wy od nw : Int) (s : Sig) : good (tChange M prs kp wy od nw) s := by
  refine good_bind (good_loads [] prs s) fun x s' _ => ?_
  split
  · exact good_bind (good_store _ _ _ _ _ _ s') fun _ _ _ => trivial
  · exact trivial
theorem tj_loads (acc : List Sn) (l : List (Int × Nd)) : tj nds M L (tLoads acc l) := by
  induction l generalizing acc with
  | nil => exact trivial
  | cons x l ih => exact tj_bind (tj_load _ _) fun y => tj_if (ih _) trivial
theorem tj_store (hM : M ≤ 1000) (l : List Sn) : tj nds M L (tStore M l kp wy od nw) := by
  refine ⟨fun B s h hS => ⟨?_, rmake_in hM _ s⟩, fun n hn => ?_⟩
  · unfold gRMake
    split
    · rename_i hc
      have h' := h.mono (B' := B) (by omega)
      exact ⟨h'.len, h'.l64, h'.pl, h'.cnt, h'.flt, h'.frl, h'.fr, h'.now, h'.said, h'.que, by show (s.rs ++ [_]).length ≤ 1000; rw [List.length_append, List.length_singleton]; omega, h'.rc.2⟩
    · exact h.mono (by omega)
  · show tj nds M L (if n = 0 then _ else _)
    exact tj_if trivial (tj_bind (fun r _ _ => (tame_help r hn).toJ) fun _ => trivial)
theorem tj_change (hM : M ≤ 1000) (prs : List (Int × Nd)) : tj nds M L (tChange M prs kp wy od nw) := tj_bind (tj_loads [] prs) fun x => tj_if (tj_bind (tj_store hM _) fun y => trivial) trivial
end
section
variable {nds : List (Int × Nd)} {M : Nat} {d : Wd} {R R' X X' : Nat → Prop} {w w' w0 wr w1 : World} {a st ph k me p q : Nat} {wk T : Value} {zs ws : List Int} {c : Cur} {s : Sig} {n r : Int} {nd : Nd} {e : Ending} {kp wy od nw : Int}
/-- What work answers. -/
theorem BT.postW {P : Sig → Prop} {o : Out (List Int)} {v : List Int} {A : Option Addr} {m q : Nat} (h : BT P d R X w a me wk p o (.ret v) wr c s) (hb : Below wr.heap.size wr w') (hs : Sl w' A m q v) (hl : v.length ≤ 1000) : PostW d R w a wk idO o (.returned (.slice A m q)) w' := by
  rw [h.rn]
  exact ⟨h.kp.trans (Kp.below hb fun b e => h.lv.lt b (h.sub b (.inl e))), ⟨A, m, q, rfl, hs, hl⟩, (h.lv.mono fun b e => h.sub b (.inl e)).below hb⟩
theorem one_num (w : World) (z : Int) : ∃ (X : World) (b : Nat), w.alloc (.cells #[.int .i64 z] i6T) = X ∧ w.heap.size = b ∧ Below w.heap.size w X ∧ Sl X (some ⟨b, 0, none⟩) 1 1 [z] :=
  ⟨_, _, rfl, rfl, below_new _ _, sl_one9 (c_new rfl rfl)⟩
set_option maxHeartbeats 8000000 in
theorem change1_walk {A : Option Addr} {m c0 b1 b2 b3 b4 b5 : Nat} {prs : List (Int × Nd)} (hM : M ≤ 1000) (hdm : d.m = M) (hx : ∀ x ∈ prs, x ∈ nds ∧ x.2.small) (hl : prs.length ≤ 20) (hs : Sl w A m c0 (prs.map Prod.fst)) (hA : ∀ ad, A = some ad → R ad.block) (hn : in64 nw)
    (hR : R b1 ∧ R b2 ∧ R b3 ∧ R b4 ∧ R b5) (h1 : w.cell? ⟨b1, 0, none⟩ = some (.slice A m c0)) (h2 : w.cell? ⟨b2, 0, none⟩ = some (.int .i64 kp)) (h3 : w.cell? ⟨b3, 0, none⟩ = some (.int .i64 wy)) (h4 : w.cell? ⟨b4, 0, none⟩ = some (.int .i64 od)) (h5 : w.cell? ⟨b5, 0, none⟩ = some (.int .i64 nw))
    (h : Lv d R w a wk c s) (hP : Stt nds M s) :
    Calls Try.prog 58 #[tkV a d.W me, ptr b1, ptr b2, ptr b3, ptr b4, ptr b5] w (PostW d R w a wk idO (run (tChange M prs kp wy od nw) c s)) := by
  obtain ⟨W, p, hW, hp, bb, tk, hsz⟩ := one_box w a d.W me
  obtain ⟨o, ho⟩ : ∃ o, run (tChange M prs kp wy od nw) c s = o := ⟨_, rfl⟩
  rw [ho]
  have HB : Hid (BT (Stt nds M) d R (fun b => R b ∨ b = p) w a me wk p o (tChange M prs kp wy od nw) W c s) := by
    show BT _ _ _ _ _ _ _ _ _ _ _ _ _ _
    rw [← ho]
    exact BT.begin_ h bb (fun b e => e.imp id fun e => by omega) (fun b e => e) tk hP
  have HD := Lib.hid (loads_touch (me := me) (R := fun b => R b ∨ b = p) hM hx (by omega) (hs.below bb) (fun ad e => .inl (hA ad e)) HB.out.lv HB.out.inv)
  have HC : Hid (∀ w', Kp R w w' → w'.cell? ⟨b2, 0, none⟩ = some (.int .i64 kp) ∧ w'.cell? ⟨b3, 0, none⟩ = some (.int .i64 wy) ∧ w'.cell? ⟨b4, 0, none⟩ = some (.int .i64 od) ∧ w'.cell? ⟨b5, 0, none⟩ = some (.int .i64 nw)) := fun w' hk => ⟨hk.read hR.2.1 h2, hk.read hR.2.2.1 h3, hk.read hR.2.2.2.1 h4, hk.read hR.2.2.2.2 h5⟩
  obtain ⟨t0, t1, t2⟩ := tk
  have g1 := below_read bb h1
  have HN64 := Lib.hid hn
  have HDM := Lib.hid hdm
  clear h bb hsz hP ho hs hA hR h1 h2 h3 h4 h5 hn hdm hx
  go_enter Try.func58, Try.ntmps58
  go_wp2_with fail
  (try rw [hW])
  refine HD.out.mono ?_
  clear HD t0 t1 t2 hW hp g1
  intro e w1 hPm
  rcases BT.callM (P := Stt nds M) (t := tLoads [] prs) (o := o) (K := fun x : List Sn × Bool => (if x.2 = true then (tStore M x.1 kp wy od nw).bind fun y => .ret [stZ y] else .ret [-1] : Tr (List Int))) HB.out (run_kpL (kl_loads [] prs)) hPm with ⟨⟨l, ok⟩, c2, s2, v, Y, rfl, hrun, ⟨u, hv, hu⟩, hB, hKp, hYn⟩ | hx
  case inr => obtain ⟨rfl, hx⟩ := hx; exact ⟨rfl, Wts.postW ⟨rfl, hx⟩⟩
  have hll : l.length ≤ ([] : List Sn).length + prs.length := run_rets (Q := fun x : List Sn × Bool => x.1.length ≤ ([] : List Sn).length + prs.length) (rets_loads [] prs) hrun
  have hll2 : l.length ≤ 20 := by simp at hll; omega
  have hv : v = .tuple #[u, .bool ok] := hv
  have hu : SnL l Y w1 u := hu
  obtain ⟨A1, c1, rfl, -⟩ := hu.shape
  subst hv
  clear hPm HB hrun hll hKp
  cases ok with
  | false =>
    obtain ⟨X, b, hX, hb, bX, sX⟩ := one_num w1 (-1)
    have hB2 : BT (Stt nds M) d R (fun b => (R b ∨ b = p) ∨ Y b) w a me wk p o (.ret [-1]) w1 c2 s2 := hB
    have HE : Hid (PostW d R w a wk idO o (.returned (.slice (some ⟨b, 0, none⟩) 1 1)) X) := hB2.postW bX sX (by simp)
    clear hB hB2 hu bX sX hYn
    go_wp2
    (try rw [hX]); (try rw [hb])
    go_ret
    exact HE.out
  | true =>
    have HB2 : Hid (BT (Stt nds M) d R (fun b => (R b ∨ b = p) ∨ Y b) w a me wk p o ((tStore M l kp wy od nw).bind fun y => .ret [stZ y]) w1 c2 s2) := hB
    have HD := Lib.hid (store_touch (me := me) (R := fun b => (R b ∨ b = p) ∨ Y b) (kp := kp) (wy := wy) (od := od) (nw := nw) hu (fun b e => .inr e) hll2 HDM.out hM HN64.out HB2.out.lv HB2.out.inv)
    obtain ⟨k2, k3, k4, k5⟩ := HC.out w1 HB2.out.kp
    obtain ⟨t0, t1, t2⟩ := HB2.out.tk
    clear hB hu hYn HC
    go_wp2_with fail
    refine HD.out.mono ?_
    clear HD t0 t1 t2 k2 k3 k4 k5
    intro e w2 hP
    rcases BT.call (K := fun y => (.ret [stZ y] : Tr (List Int))) HB2.out (run_kpL (kl_store hll2 HN64.out)) hP with ⟨⟨y1, y2⟩, c3, s3, rfl, -, hB, hKp⟩ | hx
    case inr => obtain ⟨rfl, hx⟩ := hx; exact ⟨rfl, Wts.postW ⟨rfl, hx⟩⟩
    clear hP HB2 hKp
    cases y2 with
    | true =>
      obtain ⟨X, b, hX, hb, bX, sX⟩ := one_num w2 2
      have hB2 : BT (Stt nds M) d R (fun b => (R b ∨ b = p) ∨ Y b) w a me wk p o (.ret [2]) w2 c3 s3 := hB
      have HE : Hid (PostW d R w a wk idO o (.returned (.slice (some ⟨b, 0, none⟩) 1 1)) X) := hB2.postW bX sX (by simp)
      clear hB hB2 bX sX
      go_wp2
      (try rw [hX]); (try rw [hb])
      go_ret
      exact HE.out
    | false =>
      cases y1 with
      | true =>
        obtain ⟨X, b, hX, hb, bX, sX⟩ := one_num w2 1
        have hB2 : BT (Stt nds M) d R (fun b => (R b ∨ b = p) ∨ Y b) w a me wk p o (.ret [1]) w2 c3 s3 := hB
        have HE : Hid (PostW d R w a wk idO o (.returned (.slice (some ⟨b, 0, none⟩) 1 1)) X) := hB2.postW bX sX (by simp)
        clear hB hB2 bX sX
        go_wp2
        (try rw [hX]); (try rw [hb])
        go_ret
        exact HE.out
      | false =>
        obtain ⟨X, b, hX, hb, bX, sX⟩ := one_num w2 0
        have hB2 : BT (Stt nds M) d R (fun b => (R b ∨ b = p) ∨ Y b) w a me wk p o (.ret [0]) w2 c3 s3 := hB
        have HE : Hid (PostW d R w a wk idO o (.returned (.slice (some ⟨b, 0, none⟩) 1 1)) X) := hB2.postW bX sX (by simp)
        clear hB hB2 bX sX
        go_wp2
        (try rw [hX]); (try rw [hb])
        go_ret
        exact HE.out
end
abbrev chgF : Nat := 58
section
variable {W : World} {X : Nat → Prop} {d : Wd} {n T i L M : Nat} {hs : Nat → Hp} {os : Nat → Ts} {s s' : Sig} {w w' : World} {nds : List (Int × Nd)} {kp wy od nw : Int}
theorem five_boxes (w : World) (v : Value) (kp wy od nw : Int) : ∃ (Z : World) (b : Nat), ((((w.alloc (.cells #[v] 26)).alloc (.cells #[.int .i64 kp] 3)).alloc (.cells #[.int .i64 wy] 3)).alloc (.cells #[.int .i64 od] rfT)).alloc (.cells #[.int .i64 nw] rfT) = Z ∧ w.heap.size = b ∧ Below w.heap.size w Z ∧ Z.heap.size = b + 5 ∧ Z.cell? ⟨b, 0, none⟩ = some v ∧ Z.cell? ⟨b + 1, 0, none⟩ = some (.int .i64 kp) ∧ Z.cell? ⟨b + 2, 0, none⟩ = some (.int .i64 wy) ∧ Z.cell? ⟨b + 3, 0, none⟩ = some (.int .i64 od) ∧ Z.cell? ⟨b + 4, 0, none⟩ = some (.int .i64 nw) :=
  ⟨_, _, rfl, rfl, (((((Below.refl _ w).alloc (Nat.le_refl _) _).alloc (by simp) _).alloc (by simp; omega) _).alloc (by simp; omega) _).alloc (by simp; omega) _, by simp, c_old (c_old (c_old (c_old (c_new rfl rfl)))), c_old (c_old (c_old (c_new (by simp) rfl))), c_old (c_old (c_new (by simp) rfl)), c_old (c_new (by simp) rfl), c_new (by simp) rfl⟩
/-- A thread of Change's is started. -/
theorem MB.change {me m c0 : Nat} {A : Option Addr} {prs : List (Int × Nd)} (h : MB W X d n T hs os s w) (hM : M ≤ 1000) (hdm : d.m = M) (hx : ∀ x ∈ prs, x ∈ nds ∧ x.2.small) (hl : prs.length ≤ 20) (hsl : Sl w A m c0 (prs.map Prod.fst)) (hA : ∀ ad, A = some ad → X ad.block) (hn : in64 nw) :
    Calls Try.prog 29 #[ptr d.W, .int .i64 (me : Int), .slice A m c0, .int .i64 kp, .int .i64 wy, .int .i64 od, .int .i64 nw] w fun e w' => ∃ a b, e = .returned (ptr a) ∧ MB W (fun q => X q ∨ (w.heap.size ≤ q ∧ q < w.heap.size + 5)) d (n + 1) T (upd hs n ⟨a, me, chgF, #[ptr b, ptr (b + 1), ptr (b + 2), ptr (b + 3), ptr (b + 4)], tChange M prs kp wy od nw, Stt nds M⟩) (upd os n (.run (nrm (tChange M prs kp wy od nw) s))) s w' ∧ Below w.heap.size w w' := by
  have e3 := mk_fn
  obtain ⟨Z, b, hZ, hb, bZ, sZ, c1, c2, c3, c4, c5⟩ := five_boxes w (.slice A m c0) kp wy od nw
  have h1 : MB W (fun q => X q ∨ (w.heap.size ≤ q ∧ q < w.heap.size + 5)) d n T hs os s Z := h.more bZ (fun q e => e.imp id fun e => ⟨by omega, by omega⟩) (.inr fun q e => .inl e)
  have hj : Job d (fun q => q < W.heap.size ∨ (X q ∨ (w.heap.size ≤ q ∧ q < w.heap.size + 5))) Z chgF me #[ptr b, ptr (b + 1), ptr (b + 2), ptr (b + 3), ptr (b + 4)] (Stt nds M) (tChange M prs kp wy od nw) idO := by
    intro a wk R' w' g1 g2 w1 R1 zs st s g3 g4 g5 g6 g7
    have kr : ∀ q, (X q ∨ (w.heap.size ≤ q ∧ q < w.heap.size + 5)) → R1 q ∧ w1.heap[q]? = Z.heap[q]? := fun q e => ⟨g3 _ (g1 _ (.inr e)), (g4 _ (g1 _ (.inr e))).trans (g2 _ (.inr e))⟩
    have kb : ∀ q, b ≤ q → q < b + 5 → R1 q ∧ w1.heap[q]? = Z.heap[q]? := fun q e1 e2 => kr q (.inr ⟨by omega, by omega⟩)
    exact change1_walk hM hdm hx hl ((hsl.below bZ).keepAt fun ad e _ => (kr _ (.inl (hA ad e))).2) (fun ad e => (kr _ (.inl (hA ad e))).1) hn
      ⟨(kb b (by omega) (by omega)).1, (kb (b + 1) (by omega) (by omega)).1, (kb (b + 2) (by omega) (by omega)).1, (kb (b + 3) (by omega) (by omega)).1, (kb (b + 4) (by omega) (by omega)).1⟩
      (cell_same (kb b (by omega) (by omega)).2 c1) (cell_same (kb (b + 1) (by omega) (by omega)).2 c2) (cell_same (kb (b + 2) (by omega) (by omega)).2 c3) (cell_same (kb (b + 3) (by omega) (by omega)).2 c4) (cell_same (kb (b + 4) (by omega) (by omega)).2 c5) g7 g6
  have HS := Lib.hid (h1.me.start (me := me) (f := chgF) (cap := #[ptr b, ptr (b + 1), ptr (b + 2), ptr (b + 3), ptr (b + 4)]) (Pr := Stt nds M) hj (fun a W => rfl) (good_hd (good_change _ _ _ _ _ _ s)))
  have HB := Lib.hid h1.bel
  have HZ := Lib.hid bZ
  clear h h1 bZ hx hj c1 c2 c3 c4 c5 hsl hA hn hdm
  go_enter Try.func29, Try.ntmps29
  go_wp2_with fail
  (try rw [hZ]); (try rw [hb])
  refine HS.out.mono ?_
  rintro e w1 ⟨a, rfl, hM1, hb1⟩
  have HE : Hid (MB W (fun q => X q ∨ (w.heap.size ≤ q ∧ q < w.heap.size + 5)) d (n + 1) T (upd hs n ⟨a, me, chgF, #[ptr b, ptr (b + 1), ptr (b + 2), ptr (b + 3), ptr (b + 4)], tChange M prs kp wy od nw, Stt nds M⟩) (upd os n (.run (nrm (tChange M prs kp wy od nw) s))) s w1 ∧ Below w.heap.size w w1) := ⟨⟨hM1, HB.out.trans (hb1.mono HB.out.size)⟩, HZ.out.trans (hb1.mono HZ.out.size)⟩
  clear HS HB HZ hM1 hb1
  go_wp2
  go_ret
  exact ⟨a, b, rfl, HE.out⟩
end
end Go.Proofs.Ytmhmgdpcibldlaa
