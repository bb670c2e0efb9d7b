/-
  What llx's Store comes to within work: a record of the nodes as they were, made and done.
-/
import Derived.Test.YtoeilogakfggfaaLv10
namespace Go.Proofs.Ytoeilogakfggfaa
open Go.ChangeShapes Go.WideShapes Go.ChangeAt Go.RowKit
set_option linter.unusedVariables false
set_option linter.unusedSimpArgs false
set_option maxRecDepth 20000

abbrev bbV (x : Bool × Bool) : Value := .tuple #[.bool x.1, .bool x.2]
/-- Where Store is, ahead of its touch: the record at q. -/
structure SRI {α : Type} (nds : List (Int × Nd)) (M : Nat) (d : Wd) (R : Nat → Prop) (w : World) (a me : Nat) (wk : Value) (p q : Nat) (o : Out α) (vN vI : Value) (lN lI : List Int) (kp wy od nw : Int) (t : Tr α) (wr : World) (c : Cur) (s : Sig) : Prop where
  bt : BT (Stt nds M) d R (fun b => (R b ∨ b = p ∨ b = q) ∨ (q < b ∧ (vN.ownBlock = some b ∨ vI.ownBlock = some b))) w a me wk p o t wr c s
  six : Six wr q vN vI kp wy od nw
  rN : Row rfT 0 wr vN lN
  rI : Row i6T 0 wr vI lI
  oN : ∀ b, vN.ownBlock = some b → q < b
  oI : ∀ b, vI.ownBlock = some b → q < b
  lt : p < q ∧ w.heap.size = p
section
variable {α : Type} {nds : List (Int × Nd)} {M : Nat} {d : Wd} {R R' X X' : Nat → Prop} {w w' w0 wr w1 : World} {a st ph k me p q : Nat} {wk vN vI : Value} {zs ws lN lI : List Int} {c : Cur} {s : Sig} {n r kp wy od nw : Int} {t : Tr α} {o : Out α} {e : Ending}
theorem SRI.below (h : SRI nds M d R w a me wk p q o vN vI lN lI kp wy od nw t wr c s) (hb : Below wr.heap.size wr w') : SRI nds M d R w a me wk p q o vN vI lN lI kp wy od nw t w' c s :=
  ⟨h.bt.below hb, h.six.below hb, own_at h.rN fun b e => hb.block b (World.ownsRow.lt h.rN b e).2, own_at h.rI fun b e => hb.block b (World.ownsRow.lt h.rI b e).2, h.oN, h.oI, h.lt⟩
theorem SRI.apN {z : Int} (h : SRI nds M d R w a me wk p q o vN vI lN lI kp wy od nw t wr c s) (hR : ∀ b, R b → b < w.heap.size) (hl : lN.length ≤ 1000) :
    ∃ A' m' c' Z, (Builtin.append_ #[26, 26] 26 #[vN, .slice (some ⟨wr.heap.size, 0, none⟩) 1 1]).run Try.prog (wr.alloc (.cells #[.int .i64 z] rfT)) = .ok (.slice A' m' c') Z ∧ Z.cell? ⟨q, 0, none⟩ = some vN ∧ Z.frozen? ⟨q, 0, none⟩ = false ∧ SRI nds M d R w a me wk p q o (.slice A' m' c') vI (lN ++ [z]) lI kp wy od nw t (Z.setCell ⟨q, 0, none⟩ (.slice A' m' c')) c s ∧ (∀ b, Ty wr b snT → (Z.setCell ⟨q, 0, none⟩ (.slice A' m' c')).heap[b]? = wr.heap[b]?) := by
  have hb := below_new wr (.cells #[.int .i64 z] rfT)
  have h1 := h.below hb
  have hgc := heap_alloc_new wr (.cells #[.int .i64 z] rfT)
  have hsn : ∀ b, Ty wr b snT → (wr.alloc (.cells #[.int .i64 z] rfT)).heap[b]? = wr.heap[b]? := fun b h => hb.block b (by obtain ⟨cs, hcs⟩ := h; exact (Array.getElem?_eq_some_iff.1 hcs).1)
  generalize wr.alloc (.cells #[.int .i64 z] rfT) = G at *
  obtain ⟨A', m', c', Z, q1, q2, q3, q4⟩ := run_pushN rowR h1.rN (sl_one9 (z := z) (num_cell hgc)) (by simp; omega) (by simp)
  have hlt := h.lt
  have hql : q < G.heap.size := h1.six.lt
  have hq : Z.heap[q]? = G.heap[q]? := q3.block q hql fun e => by have := h.oN q e.symm; omega
  have hI : ∀ b, vI.ownBlock = some b → Z.heap[b]? = G.heap[b]? := fun b e => q3.block b (World.ownsRow.lt h1.rI b e).2 fun f => absurd ((own_ty h1.rI e).one (own_ty h1.rN f.symm)) (by decide)
  have own' : ∀ b, (Value.slice A' m' c').ownBlock = some b → q < b := fun b e => by
    rcases q4 b e with e | e
    · exact h.oN b e
    · omega
  have hZ : ∀ b, (Value.slice A' m' c').ownBlock = some b → b < Z.heap.size := fun b e => (World.ownsRow.lt q2 b e).2
  have hB : BT (Stt nds M) d R (fun b => (R b ∨ b = p ∨ b = q) ∨ (q < b ∧ ((Value.slice A' m' c').ownBlock = some b ∨ vI.ownBlock = some b))) w a me wk p o t Z c s := by
    refine h1.bt.kept q3 (fun b e => ⟨.inr ⟨h.oN b e, .inl e⟩, fun f => ?_, fun f => ?_⟩) (fun b e => ?_) (fun b e => ?_)
    · have := hR b f; have := h.oN b e; omega
    · have := h.oN b e; omega
    · rcases e with e | ⟨e1, e | e⟩
      · exact .inl (.inl e)
      · rcases q4 b e with e2 | e2
        · exact .inl (.inr ⟨e1, .inl e2⟩)
        · exact .inr ⟨e2, hZ b e⟩
      · exact .inl (.inr ⟨e1, .inr e⟩)
    · rcases e with e | e
      · exact .inl (.inl e)
      · exact .inl (.inr (.inl e))
  have e6 : Six Z q vN vI kp wy od nw := hq.trans h1.six
  have hne : ∀ b, b ≠ q → (Z.setCell ⟨q, 0, none⟩ (.slice A' m' c')).heap[b]? = Z.heap[b]? := fun b e => heap_setCell_other Z ⟨q, 0, none⟩ b _ (fun e2 => e e2)
  refine ⟨A', m', c', Z, q1, e6.cells.1, e6.free 0, ⟨hB.setR (.inl (.inr (.inr rfl))) _ (fun f => by have := hR q f; omega) (by omega), e6.set0 _, own_at q2 fun b e => hne b (by have := own' b e; omega), own_at h1.rI fun b e => (hne b (by have := h.oI b e; omega)).trans (hI b e), own', h.oI, h.lt⟩, fun b hb => ?_⟩
  have hGb := hsn b hb
  have hTG : Ty G b snT := by obtain ⟨cs, hcs⟩ := hb; exact ⟨cs, hGb.trans hcs⟩
  have hbl : b < G.heap.size := by obtain ⟨cs, hcs⟩ := hTG; exact (Array.getElem?_eq_some_iff.1 hcs).1
  refine (hne b fun e => ?_).trans ((q3.block b hbl fun f => absurd (hTG.one (own_ty h1.rN f.symm)) (by decide)).trans hGb)
  subst e
  exact absurd (hTG.one ⟨_, h1.six⟩) (by decide)
theorem SRI.apI {z : Int} (h : SRI nds M d R w a me wk p q o vN vI lN lI kp wy od nw t wr c s) (hR : ∀ b, R b → b < w.heap.size) (hl : lI.length ≤ 1000) :
    ∃ A' m' c' Z, (Builtin.append_ #[29, 29] 29 #[vI, .slice (some ⟨wr.heap.size, 0, none⟩) 1 1]).run Try.prog (wr.alloc (.cells #[.int .i64 z] i6T)) = .ok (.slice A' m' c') Z ∧ Z.cell? ⟨q, 1, none⟩ = some vI ∧ Z.frozen? ⟨q, 1, none⟩ = false ∧ SRI nds M d R w a me wk p q o vN (.slice A' m' c') lN (lI ++ [z]) kp wy od nw t (Z.setCell ⟨q, 1, none⟩ (.slice A' m' c')) c s := by
  have hb := below_new wr (.cells #[.int .i64 z] i6T)
  have h1 := h.below hb
  have hgc := heap_alloc_new wr (.cells #[.int .i64 z] i6T)
  generalize wr.alloc (.cells #[.int .i64 z] i6T) = G at *
  obtain ⟨A', m', c', Z, q1, q2, q3, q4⟩ := run_pushN rowK h1.rI (sl_one9 (z := z) (num_cell hgc)) (by simp; omega) (by simp)
  have hlt := h.lt
  have hql : q < G.heap.size := h1.six.lt
  have hq : Z.heap[q]? = G.heap[q]? := q3.block q hql fun e => by have := h.oI q e.symm; omega
  have hI : ∀ b, vN.ownBlock = some b → Z.heap[b]? = G.heap[b]? := fun b e => q3.block b (World.ownsRow.lt h1.rN b e).2 fun f => absurd ((own_ty h1.rN e).one (own_ty h1.rI f.symm)) (by decide)
  have own' : ∀ b, (Value.slice A' m' c').ownBlock = some b → q < b := fun b e => by
    rcases q4 b e with e | e
    · exact h.oI b e
    · omega
  have hZ : ∀ b, (Value.slice A' m' c').ownBlock = some b → b < Z.heap.size := fun b e => (World.ownsRow.lt q2 b e).2
  have hB : BT (Stt nds M) d R (fun b => (R b ∨ b = p ∨ b = q) ∨ (q < b ∧ (vN.ownBlock = some b ∨ (Value.slice A' m' c').ownBlock = some b))) w a me wk p o t Z c s := by
    refine h1.bt.kept q3 (fun b e => ⟨.inr ⟨h.oI b e, .inr e⟩, fun f => ?_, fun f => ?_⟩) (fun b e => ?_) (fun b e => ?_)
    · have := hR b f; have := h.oI b e; omega
    · have := h.oI b e; omega
    · rcases e with e | ⟨e1, e | e⟩
      · exact .inl (.inl e)
      · exact .inl (.inr ⟨e1, .inl e⟩)
      · rcases q4 b e with e2 | e2
        · exact .inl (.inr ⟨e1, .inr e2⟩)
        · exact .inr ⟨e2, hZ b e⟩
    · rcases e with e | e
      · exact .inl (.inl e)
      · exact .inl (.inr (.inl e))
  have e6 : Six Z q vN vI kp wy od nw := hq.trans h1.six
  have hne : ∀ b, b ≠ q → (Z.setCell ⟨q, 1, none⟩ (.slice A' m' c')).heap[b]? = Z.heap[b]? := fun b e => heap_setCell_other Z ⟨q, 1, none⟩ b _ (fun e2 => e e2)
  refine ⟨A', m', c', Z, q1, e6.cells.2.1, e6.free 1, hB.setR (.inl (.inr (.inr rfl))) _ (fun f => by have := hR q f; omega) (by omega), e6.set1 _, own_at h1.rN fun b e => (hne b (by have := h.oN b e; omega)).trans (hI b e), own_at q2 fun b e => hne b (by have := own' b e; omega), h.oN, own', h.lt⟩
end
section
variable {nds : List (Int × Nd)} {M : Nat} {d : Wd} {R R' X X' : Nat → Prop} {w w' w0 wr w1 : World} {a st ph k me p q : Nat} {wk T : Value} {zs ws : List Int} {c : Cur} {s : Sig} {n r : Int} {nd : Nd} {e : Ending} {l : List Sn} {Y : Nat → Prop} {kp wy od nw : Int}
theorem store_boxes (w1 : World) (kp wy od nw : Int) : ∃ (V : World) (q : Nat), w1.alloc (.cells #[.slice none 0 0, .slice none 0 0, .int .i64 0, .int .i64 0, .int .i64 0, .int .i64 0] 39) = V ∧ w1.heap.size = q ∧ Six V q (.slice none 0 0) (.slice none 0 0) 0 0 0 0 ∧ Six (put6 V q (.slice none 0 0) (.slice none 0 0) kp wy od nw) q (.slice none 0 0) (.slice none 0 0) kp wy od nw ∧ Below w1.heap.size w1 (put6 V q (.slice none 0 0) (.slice none 0 0) kp wy od nw) ∧ (put6 V q (.slice none 0 0) (.slice none 0 0) kp wy od nw).heap.size = q + 1 :=
  ⟨_, _, rfl, rfl, Six.new w1 rfl _ _ _ _ _ _, (Six.new w1 rfl _ _ _ _ _ _).put, below_put6 (below_new _ _) (Nat.le_refl _), by simp⟩
set_option maxHeartbeats 8000000 in
theorem store_touch {A : Option Addr} {m c0 : Nat} (hs : SnL l Y w (.slice A m c0)) (hY : ∀ b, Y b → R b) (hl : l.length ≤ 20) (hdm : d.m = M) (hM : M ≤ 1000) (hn : in64 nw) (h : Lv d R w a wk c s) (hP : Stt nds M s) :
    Calls Try.prog 23 #[tkV a d.W me, .slice A m c0, .int .i64 kp, .int .i64 wy, .int .i64 od, .int .i64 nw] w (Post d R w a wk bbV (run (tStore M l kp wy od nw) c s)) := by
  have e3 := mk_fn
  have HR := Lib.hid h.lt
  obtain ⟨W, p, hW, hp, bb, tk, hsz⟩ := one_box w a d.W me
  obtain ⟨o, ho⟩ : ∃ o, run (tStore M l kp wy od nw) c s = o := ⟨_, rfl⟩
  rw [ho]
  have HB : Hid (BT (Stt nds M) d R (fun b => R b ∨ b = p) w a me wk p o (tStore M l kp wy od nw) W c s) := by
    show BT _ _ _ _ _ _ _ _ _ _ _ _ _ _
    rw [← ho]
    exact BT.begin_ h bb (fun b e => e.imp id fun e => by omega) (fun b e => e) tk hP
  have HN := Lib.hid (isNone_walk a d.W me W)
  have HPP := Lib.hid hp
  have hml : m = l.length := by
    obtain ⟨A', c', e, _⟩ := hs.shape
    injection e with _ e _
  have HSN : Hid (∀ wr, Kp R w wr → SnL l Y wr (.slice A m c0)) := fun wr hk => hs.keep (fun b e => hk.block b (hY b e)) fun b e => e
  have HN64 := Lib.hid hn
  have HDM := Lib.hid hdm
  obtain ⟨t0, t1, t2⟩ := tk
  clear h bb hsz hP ho hs hY hn hdm
  go_enter Try.func23, Try.ntmps23
  go_wp2_with fail
  (try rw [hW])
  refine HN.out.mono ?_
  rintro e w1 ⟨rfl, b1⟩
  have HB1 := Lib.hid (HB.out.below b1)
  clear HN HB b1 t0 t1 t2 hW hp
  obtain ⟨V, q, hV, hq, h6, h6P, bP, sP⟩ := store_boxes w1 kp wy od nw
  obtain ⟨P0, hP0⟩ : ∃ P0, put6 V q (.slice none 0 0) (.slice none 0 0) kp wy od nw = P0 := ⟨_, rfl⟩
  rw [hP0] at h6P bP sP
  have hpl : p < w1.heap.size := HB1.out.lv.lt p (.inr rfl)
  have HS0 : Hid (SRI nds M d R w a me wk p q o (.slice none 0 0) (.slice none 0 0) ((l.take 0).map Sn.rf) ((l.take 0).map Sn.inf) kp wy od nw (tStore M l kp wy od nw) P0 c s) :=
    ⟨HB1.out.more bP (fun b e => by
      rcases e with (e | e | e) | ⟨_, e | e⟩
      · exact .inl (.inl e)
      · exact .inl (.inr e)
      · exact .inr ⟨by omega, by omega⟩
      · cases e
      · cases e) fun b e => .inl (e.imp id .inl), h6P, Row.nil _ _ _, Row.nil _ _ _, fun b e => (by cases e), fun b e => (by cases e), by omega, HPP.out⟩
  have HML := Lib.hid hml
  obtain ⟨x0, x1, x2, x3, x4, x5⟩ := h6.cells
  obtain ⟨f0, f1, f2, f3, f4, f5⟩ := h6.frees
  clear h6 h6P bP sP HB1
  go_wp2_with fail
  (try rw [hV]); (try rw [hq]); (try rw [hP0])
  clear x0 x1 x2 x3 x4 x5 f0 f1 f2 f3 f4 f5 hV hq hP0
  go_loopg [27] m (fun gk iv wr => ∃ (j : Nat) (A1 : Option Addr) (n1 c1 : Nat) (A2 : Option Addr) (n2 c2 : Nat), j + gk = m ∧ iv = .int .i64 (j : Int) ∧ Hid (SRI nds M d R w a me wk p q o (.slice A1 n1 c1) (.slice A2 n2 c2) ((l.take j).map Sn.rf) ((l.take j).map Sn.inf) kp wy od nw (tStore M l kp wy od nw) wr c s))
  case atStart => exact ⟨0, none, 0, 0, none, 0, 0, by omega, rfl, HS0.out⟩
  case round =>
    clear HS0
    obtain ⟨j, A1, n1, c1, A2, n2, c2, hj, rfl, HH⟩ := hrel
    by_cases hlt : j < m
    case neg =>
      have i1 : ¬ ((j : Int) < (m : Int)) := by omega
      have HS1 : Hid (SRI nds M d R w a me wk p q o (.slice A1 n1 c1) (.slice A2 n2 c2) (l.map Sn.rf) (l.map Sn.inf) kp wy od nw ((tDo (gRMake M (rcSn l kp wy od nw))).bind fun n => if n = 0 then .ret (false, true) else (tHelpL n).bind fun b => .ret (b, false)) wr c s) := by
        have h := HH.out
        rw [List.take_of_length_le (by have := HML.out; omega)] at h
        exact h
      clear HH
      obtain ⟨t0, t1, t2⟩ := HS1.out.bt.tk
      obtain rfl : n1 = l.length := by have := HS1.out.rN.sl.len; simpa using this
      have HD := Lib.hid (do_touch (f := 44) (cap := #[ptr p, ptr q]) (g := gRMake M (rcSn l kp wy od nw)) (fun W => rfl) HS1.out.bt.lv (fun _ => rmake_in hM _ _) (by
        intro hl2 w2 FW hWS hRR hsz
        have kb : ∀ b, ((R b ∨ b = p ∨ b = q) ∨ (q < b ∧ ((Value.slice A1 l.length c1).ownBlock = some b ∨ (Value.slice A2 n2 c2).ownBlock = some b))) → w2.heap[b]? = wr.heap[b]? := fun b e => (hRR b e).1
        refine lstore1_walk (A := A1) (B' := A2) (m := l.length) (c0 := c1) (c1 := c2) hWS (HS1.out.bt.tk.cells (kb p (.inl (.inr (.inl rfl))))) (show Six w2 q _ _ _ _ _ _ from (kb q (.inl (.inr (.inr rfl)))).trans ?_) ?_ ?_ HDM.out (by omega) hl
        · have h6 := HS1.out.six
          have e2 : n2 = l.length := by have := HS1.out.rI.sl.len; simpa using this
          rw [e2] at h6
          exact h6
        · have hr : Row rfT 0 w2 _ _ := own_at HS1.out.rN fun b e => kb b (.inr ⟨HS1.out.oN b e, .inl e⟩)
          exact hr.sl
        · have e2 : n2 = l.length := by have := HS1.out.rI.sl.len; simpa using this
          have hr : Row i6T 0 w2 _ _ := own_at HS1.out.rI fun b e => kb b (.inr ⟨HS1.out.oI b e, .inr e⟩)
          have hr := hr.sl
          rw [e2] at hr
          exact hr))
      go_wp2_with fail
      refine HD.out.mono ?_
      clear HD t0 t1 t2
      intro e w2 hP
      rcases BT.call (K := fun n => (if n = 0 then .ret (false, true) else (tHelpL n).bind fun b => .ret (b, false) : Tr (Bool × Bool))) HS1.out.bt (run_kpL (kl_rmake (by simpa [rcSn] using hl) HN64.out)) hP with ⟨n, c3, s3, rfl, -, hB, hKp⟩ | hx
      case inr => obtain ⟨rfl, hx⟩ := hx; exact ⟨rfl, Wts.post ⟨rfl, hx⟩⟩
      clear hP HS1
      have HB5 : Hid (BT (Stt nds M) d R (fun b => R b ∨ b = p) w a me wk p o (if n = 0 then .ret (false, true) else (tHelpL n).bind fun b => .ret (b, false)) w2 c3 s3) := BT.mono hB (fun b e => .inl (e.imp id .inl)) fun b e => e
      clear hB hKp
      by_cases hn0 : n = 0
      · have HE : Hid (Post d R w a wk bbV o (.returned (.tuple #[.bool false, .bool true])) w2) := by
          have h := HB5.out
          rw [if_pos hn0] at h
          exact BT.post (V := bbV) h
        subst hn0
        clear HB5
        go_wp2
        go_ret2
        exact HE.out
      · have HB6 : Hid (BT (Stt nds M) d R (fun b => R b ∨ b = p) w a me wk p o ((tHelp (rcOf s3.rs n) n).bind fun b => .ret (b, false)) w2 c3 s3) := by
          have h := HB5.out
          rw [if_neg hn0] at h
          exact BT.lk (K := fun r => (tHelp r n).bind fun b => .ret (b, false)) h
        obtain ⟨hg, hnw⟩ := HB5.out.inv.rc n
        have hfew := HB5.out.inv.few
        obtain ⟨r, hr⟩ : ∃ r, rcOf s3.rs n = r := ⟨_, rfl⟩
        rw [hr] at HB6 hg hnw
        obtain ⟨ns, is, kp', wy', od', nw'⟩ := r
        have HD := Lib.hid (record_touch (me := me) HB6.out.lv hr hg.kp hg.len hg.few (by omega))
        have HNW := Lib.hid hnw
        obtain ⟨t0, t1, t2⟩ := HB6.out.tk
        clear HB5 hg hnw hfew hr
        go_wp2_with fail
        refine HD.out.mono ?_
        clear HD t0 t1 t2
        intro e w4 hP
        rcases BT.call (K := fun b => (.ret (b, false) : Tr (Bool × Bool))) HB6.out (run_kpL (ks_help _ HNW.out n).toL) hP with ⟨b, c4, s4, rfl, -, hB, hKp⟩ | hx
        case inr => obtain ⟨rfl, hx⟩ := hx; exact ⟨rfl, Wts.post ⟨rfl, hx⟩⟩
        have HE : Hid (Post d R w a wk bbV o (.returned (.tuple #[.bool b, .bool false])) w4) := BT.post (V := bbV) hB
        clear hP hB hKp HB6
        go_wp2
        go_ret2
        exact HE.out
    have i1 : (j : Int) < (m : Int) := by omega
    have i0 : (0 : Int) ≤ (j : Int) := by omega
    have hkw : IntKind.i64.wrap ((j : Int) + 1) = (j : Int) + 1 := IntWalk.i64_in _ (by omega)
    have hjl : j < l.length := by omega
    obtain ⟨x, hxe⟩ : ∃ x, l[j] = x := ⟨_, rfl⟩
    obtain ⟨g, pv, kv, zv, wv, hAe, hnl, hYg, ⟨P1, m1, q1, rfl⟩, ⟨P2, m2, q2, rfl⟩, ⟨P3, m3, q3, rfl⟩, k4, k5, y0, y1, y2, y3, y4, y5, y6, y7⟩ := (HSN.out wr HH.out.bt.kp).at_ (i := j) (x := x) (by rw [List.getElem?_eq_getElem hjl, hxe])
    obtain ⟨A4, m4, q4, rfl⟩ := k4.shape
    subst hAe
    obtain ⟨Z, u, hZ, hu, e2, bZ, sZ⟩ : ∃ (Z : World) (u : Nat), wr.alloc (.cells #[.int .i64 0, .int .i64 0, .bool false, .bool false, .slice none 0 0, .slice none 0 0, .slice none 0 0, .slice none 0 0] snT) = Z ∧ wr.heap.size = u ∧ Eig Z u 0 0 false false (.slice none 0 0) (.slice none 0 0) (.slice none 0 0) (.slice none 0 0) ∧ Below wr.heap.size wr Z ∧ Z.heap.size = u + 1 := ⟨_, _, rfl, rfl, Eig.new _ rfl _ _ _ _ _ _ _ _, below_new _ _, by simp⟩
    have hO := only_put8 Z u x.rf x.inf x.nd.inn x.nd.tag (.slice P1 m1 q1) (.slice P2 m2 q2) (.slice P3 m3 q3) (.slice A4 m4 q4)
    have b8 : Below wr.heap.size Z (put8 Z u x.rf x.inf x.nd.inn x.nd.tag (.slice P1 m1 q1) (.slice P2 m2 q2) (.slice P3 m3 q3) (.slice A4 m4 q4)) := hO.below (fun b e => by omega) (by omega)
    have e3 : Eig (put8 Z u x.rf x.inf x.nd.inn x.nd.tag (.slice P1 m1 q1) (.slice P2 m2 q2) (.slice P3 m3 q3) (.slice A4 m4 q4)) u x.rf x.inf x.nd.inn x.nd.tag (.slice P1 m1 q1) (.slice P2 m2 q2) (.slice P3 m3 q3) (.slice A4 m4 q4) := e2.put
    obtain ⟨V, hV⟩ : ∃ V, put8 Z u x.rf x.inf x.nd.inn x.nd.tag (.slice P1 m1 q1) (.slice P2 m2 q2) (.slice P3 m3 q3) (.slice A4 m4 q4) = V := ⟨_, rfl⟩
    rw [hV] at b8 e3
    have HS2 := Lib.hid (HH.out.below (bZ.trans b8))
    have huq : q < u := by have := HH.out.six.lt; omega
    obtain ⟨AN, mN, cN, Z1, happ1, hz1, hf1, hS3, hkeep⟩ := HS2.out.apN (z := x.rf) HR.out (by simp; omega)
    obtain ⟨V1, hV1⟩ : ∃ V1, Z1.setCell ⟨q, 0, none⟩ (.slice AN mN cN) = V1 := ⟨_, rfl⟩
    rw [hV1] at hS3 hkeep
    have HS3 := Lib.hid hS3
    obtain ⟨AI, mI, cI, Z2, happ2, hz2, hf2, hS4⟩ := HS3.out.apI (z := x.inf) HR.out (by simp; omega)
    have HS4 : Hid (SRI nds M d R w a me wk p q o (.slice AN mN cN) (.slice AI mI cI) ((l.take (j + 1)).map Sn.rf) ((l.take (j + 1)).map Sn.inf) kp wy od nw (tStore M l kp wy od nw) (Z2.setCell ⟨q, 1, none⟩ (.slice AI mI cI)) c s) := by
      have e : l.take (j + 1) = l.take j ++ [x] := by rw [List.take_add_one, List.getElem?_eq_getElem hjl, hxe]; rfl
      show SRI _ _ _ _ _ _ _ _ _ _ _ _ _ _ _ _ _ _ _ _ _ _ _
      rw [e, List.map_append, List.map_append]
      exact hS4
    obtain ⟨r0, r1, -, -, -, -⟩ := HS2.out.six.cells
    obtain ⟨s0, s1, -, -, -, -⟩ := HS3.out.six.cells
    obtain ⟨x0, x1, x2, x3, x4, x5, x6, x7⟩ := e2.cells
    obtain ⟨f0, f1, f2, f3, f4, f5, f6, f7⟩ := e2.frees
    obtain ⟨u0, u1, -, -, -, -, -, -⟩ := e3.cells
    have e4 : Eig V1 u x.rf x.inf x.nd.inn x.nd.tag (.slice P1 m1 q1) (.slice P2 m2 q2) (.slice P3 m3 q3) (.slice A4 m4 q4) := e3.at_ (hkeep u ⟨_, e3⟩)
    obtain ⟨-, w1', -, -, -, -, -, -⟩ := e4.cells
    clear HH hxe hO b8 e2 e3 e4 bZ k4 k5 hYg sZ HS2 HS3 hS3 hS4 hkeep
    go_upto_region 7 with fail
    (try rw [hZ]); (try rw [hu]); (try rw [hV])
    clear x0 x1 x2 x3 x4 x5 x6 x7 f0 f1 f2 f3 f4 f5 f6 f7 hZ hu hV y0 y1 y2 y3 y4 y5 y6 y7
    go_upto_region 8 with (at_builtin; refine Lib.wpList_append_run _ rfl _ _ _ _ rfl _ _ rfl rfl _ _ happ1 ?_)
    (try rw [hV1])
    clear r0 r1 u0 u1 hz1 hf1 hV1 happ1
    go_wp2_with (at_builtin; refine Lib.wpList_append_run _ rfl _ _ _ _ rfl _ _ rfl rfl _ _ happ2 ?_)
    go_roundg (gk - 1)
    case measure => omega
    case rel => exact ⟨j + 1, _, _, _, _, _, _, by omega, by go_num, HS4.out⟩
end
end Go.Proofs.Ytoeilogakfggfaa
