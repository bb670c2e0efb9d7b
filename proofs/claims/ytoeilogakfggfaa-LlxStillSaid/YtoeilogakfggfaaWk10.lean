/-
  The laws' work that looks at a node: a thread that loads it, and tells what it was.
-/
import Derived.Test.YtoeilogakfggfaaLd10
import Derived.Test.YtoeilogakfggfaaLk10
namespace Go.Proofs.Ytoeilogakfggfaa
open Go.ChangeShapes Go.WideShapes Go.ChangeAt Go.RowKit
set_option linter.unusedVariables false
set_option linter.unusedSimpArgs false
set_option maxRecDepth 20000

abbrev i6T : TypeId := 2
/-- Whatever it is told, it answers so. -/
def rets {α : Type} (Q : α → Prop) : Tr α → Prop
  | .ret v => Q v
  | .tch g K => ∀ z, rets Q (K z)
  | .lk n K => ∀ r, rets Q (K r)
section
variable {α β : Type} {Q : α → Prop} {U : β → Prop}
theorem run_rets {t : Tr α} {c c' : Cur} {s s' : Sig} {v : α} (ht : rets Q t) (h : run t c s = .ret v c' s') : Q v := by
  induction t generalizing c s with
  | ret v => simp only [run] at h; injection h with h _ _; exact h ▸ ht
  | tch g K ih =>
    simp only [run] at h
    split at h
    · split at h
      · exact ih _ (ht _) h
      · exact ih _ (ht _) h
    · cases h
  | lk n K ih => exact ih _ (ht _) h
theorem ev_rets {t : Tr α} {s : Sig} (ht : rets Q t) : Q (ev t s).1 := by
  induction t generalizing s with
  | ret v => exact ht
  | tch g K ih => exact ih _ (ht _)
  | lk n K ih => exact ih _ (ht _)
theorem rets_bind {t : Tr α} {K : α → Tr β} (ht : rets Q t) (hK : ∀ v, Q v → rets U (K v)) : rets U (t.bind K) := by
  induction t with
  | ret v => exact hK v ht
  | tch g K' ih => exact fun z => ih z (ht z)
  | lk n K' ih => exact fun r => ih r (ht r)
theorem rets_any (t : Tr α) : rets (fun _ => True) t := by
  induction t with
  | ret v => exact trivial
  | tch g K ih => exact fun z => ih z
  | lk n K ih => exact fun r => ih r
end
theorem rets_ways (r : Int) (k i : Nat) (ws : List Int) : rets (fun l => l.length = ws.length + k) (tWays r k i ws) := by
  induction k generalizing i ws with
  | zero => exact rfl
  | succ k ih =>
    refine rets_bind (rets_any _) fun z _ => ?_
    have := ih (i + 1) (ws ++ [z])
    rw [List.length_append, List.length_singleton, show ws.length + 1 + k = ws.length + (k + 1) from by omega] at this
    exact this
def LdOk (nd : Nd) (x : Sn × Int) : Prop := x.1.ws.length ≤ nd.zs.length ∧ (x.2 = 0 ∨ x.2 = 1 ∨ x.2 = 2) ∧ (x.2 = 0 → x.1.ws.length = nd.zs.length)
theorem rets_rest (r n : Int) (m : Bool) (nd : Nd) : rets (LdOk nd) (tRest r n m) := by
  refine rets_bind (rets_any _) fun b _ => ?_
  split
  · exact ⟨Nat.zero_le _, .inr (.inr rfl), fun e => by cases e⟩
  · exact rets_bind (rets_any _) fun n2 _ => rets_bind (rets_any _) fun _ _ => ⟨Nat.zero_le _, .inr (.inl rfl), fun e => by cases e⟩
theorem rets_load (r : Int) (nd : Nd) : rets (LdOk nd) (tLoad r nd) := by
  refine rets_bind (rets_any _) fun m _ => rets_bind (rets_any _) fun n _ => rets_bind (rets_any _) fun st _ => rets_bind (rets_any _) fun m2 _ => ?_
  split
  · refine rets_bind (Q := fun x : Sn × Bool => x.1.ws.length = nd.zs.length) (rets_bind (rets_ways r _ 0 []) fun ws hw => rets_bind (rets_any _) fun y _ => (by show ws.length = _; simpa using hw)) fun x hx => ?_
    split
    · exact ⟨Nat.le_of_eq hx, .inl rfl, fun _ => hx⟩
    · exact rets_rest r n m nd
  · exact rets_rest r n m nd
/-- A node is loaded, and told. -/
def tLook (r : Int) (nd : Nd) : Tr (List Int) := (tLoad r nd).bind fun x => .ret (x.2 :: x.1.inf :: x.1.ws)
/-- What is told grows: its row T; the ways stay. -/
structure LKI (d : Wd) (R : Nat → Prop) (w : World) (a : Nat) (wk : Value) (c : Cur) (s : Sig) (q : Nat) (wv : Value) (ws : List Int) (T : Value) (zs : List Int) (wr : World) : Prop where
  lv : Lv d (fun b => R b ∨ T.ownBlock = some b) wr a wk c s
  kp : Kp R w wr
  ways : Row rfT 0 wr wv ws
  wo : ∀ b, wv.ownBlock = some b → b < q
  row : Row i6T 0 wr T zs
  own : ∀ b, T.ownBlock = some b → q ≤ b
  rq : ∀ b, R b → b < q
  sz : q ≤ wr.heap.size
section
variable {nds : List (Int × Nd)} {M : Nat} {d : Wd} {R R' X X' : Nat → Prop} {w w' w0 wr w1 : World} {a st ph k me p q : Nat} {wk wv T : Value} {zs ws : List Int} {c : Cur} {s : Sig} {n r : Int} {nd : Nd}
theorem LKI.push {z : Int} (h : LKI d R w a wk c s q wv ws T zs wr) (hl : zs.length ≤ 1000) :
    ∃ A' m' c' Z, (Builtin.append_ #[29, 29] 29 #[T, .slice (some ⟨wr.heap.size, 0, none⟩) 1 1]).run Try.prog (wr.alloc (.cells #[.int .i64 z] i6T)) = .ok (.slice A' m' c') Z ∧ LKI d R w a wk c s q wv ws (.slice A' m' c') (zs ++ [z]) Z := by
  have hb := below_new wr (.cells #[.int .i64 z] i6T)
  obtain ⟨A', m', c', Z, q1, q2, q3, q4⟩ := run_pushN rowK (own_at h.row fun b e => hb.block b (h.lv.lt b (.inr e))) (sl_one9 (z := z) (c_new rfl rfl)) (by simp; omega) (by simp)
  have hlv := h.lv.below hb
  have hZ : ∀ b, (Value.slice A' m' c').ownBlock = some b → b < Z.heap.size := fun b e => (World.ownsRow.lt q2 b e).2
  have hne : ∀ b, R b → some b ≠ T.ownBlock := fun b e f => by have := h.own b f.symm; have := h.rq b e; omega
  refine ⟨A', m', c', Z, q1, ⟨hlv.lv.kept q3 (fun b e => .inr e) (fun b e => ?_), hlv.ok, hlv.few, hlv.in64, hlv.fit⟩, ?_, own_at h.ways fun b e => ?_, h.wo, q2, fun b e => ?_, h.rq, Nat.le_trans h.sz (Nat.le_trans hb.size q3.size)⟩
  · rcases e with e | e
    · exact .inl (.inl e)
    · exact (q4 b e).imp .inr fun e2 => ⟨e2, hZ b e⟩
  · exact (h.kp.trans (Kp.below hb fun b e => h.lv.lt b (.inl e))).trans ⟨q3.os, q3.tape, q3.output, q3.size, fun b e => q3.block b (hlv.lt b (.inl e)) fun f => hne b e f⟩
  · have hq := h.wo b e
    have hlt := (World.ownsRow.lt h.ways b e).2
    rw [q3.block b (Nat.lt_of_lt_of_le hlt hb.size) (fun f => by have := h.own b f.symm; omega), hb.block b hlt]
  · rcases q4 b e with e2 | e2
    · exact h.own b e2
    · exact Nat.le_trans (Nat.le_trans h.sz hb.size) e2
theorem LKI.below (h : LKI d R w a wk c s q wv ws T zs wr) (hb : Below wr.heap.size wr w') : LKI d R w a wk c s q wv ws T zs w' :=
  ⟨h.lv.below hb, h.kp.trans (Kp.below hb fun b e => h.lv.lt b (.inl e)), own_at h.ways fun b e => hb.block b (World.ownsRow.lt h.ways b e).2, h.wo, own_at h.row fun b e => hb.block b (h.lv.lt b (.inr e)), h.own, h.rq, Nat.le_trans h.sz hb.size⟩
set_option maxHeartbeats 4000000 in
theorem looker1_walk {Bn : Nat} (hx : (r, nd) ∈ nds) (hnd : nd.small) (hM : M ≤ 1000) (h : Lv d R w a wk c s) (hP : Stt nds M s) (hR : R Bn) (hc : w.cell? ⟨Bn, 0, none⟩ = some (.int .i64 r)) :
    Calls Try.prog 62 #[tkV a d.W me, ptr Bn] w (PostW d R w a wk idO (run (tLook r nd) c s)) := by
  have HRL := Lib.hid h.lt
  obtain ⟨W, p, hW, hp, bb, tk, hsz⟩ := one_box w a d.W me
  obtain ⟨o, ho⟩ : ∃ o, run (tLook r nd) c s = o := ⟨_, rfl⟩
  rw [ho]
  have HB : Hid (BT (Stt nds M) d R (fun b => R b ∨ b = p) w a me wk p o (tLook r nd) W c s) := by
    show BT _ _ _ _ _ _ _ _ _ _ _ _ _ _
    rw [← ho]
    exact BT.begin_ h bb (fun b e => e.imp id fun e => by omega) (fun b e => e) tk hP
  have HD := Lib.hid (load_touch (me := me) hx hnd hM HB.out.lv HB.out.inv)
  have HND := Lib.hid hnd
  obtain ⟨t0, t1, t2⟩ := tk
  have hcW := below_read bb hc
  have HPP := Lib.hid hp
  clear h bb hsz hP ho hc hx hnd
  go_enter Try.func62, Try.ntmps62
  go_wp2_with fail
  (try rw [hW])
  refine HD.out.mono ?_
  clear HD t0 t1 t2 hcW hW
  intro e w1 hPm
  rcases BT.callM (P := Stt nds M) (t := tLoad r nd) (o := o) (K := fun x : Sn × Int => (.ret (x.2 :: x.1.inf :: x.1.ws) : Tr (List Int))) HB.out (run_kpL (kl_load r nd)) hPm with ⟨⟨x, status⟩, c2, s2, v, Y, rfl, hrun, ⟨u, hv, hu⟩, hB, hKp, hYn⟩ | hx
  case inr => obtain ⟨rfl, hx⟩ := hx; exact ⟨rfl, Wts.postW ⟨rfl, hx⟩⟩
  have hok : LdOk nd (x, status) := run_rets (rets_load r nd) hrun
  have hv : v = .tuple #[u, .int .u8 status] := hv
  have hu : SnU x Y w1 u := hu
  obtain ⟨pv, kv, zv, wv, rfl, ⟨P1, n1, q1, rfl⟩, ⟨P2, n2, q2, rfl⟩, ⟨P3, n3, q3, rfl⟩, y4, y5⟩ := hu
  obtain ⟨A4, n4, q4, rfl⟩ := y4.shape
  obtain rfl : n4 = x.ws.length := y4.sl.len
  subst hv
  obtain ⟨Z, q, hZ, hq, e2, bZ, sZ⟩ : ∃ (Z : World) (q : Nat), w1.alloc (.cells #[.int .i64 0, .int .i64 0, .bool false, .bool false, .slice none 0 0, .slice none 0 0, .slice none 0 0, .slice none 0 0] snT) = Z ∧ w1.heap.size = q ∧ Eig Z q 0 0 false false (.slice none 0 0) (.slice none 0 0) (.slice none 0 0) (.slice none 0 0) ∧ Below w1.heap.size w1 Z ∧ Z.heap.size = q + 1 := ⟨_, _, rfl, rfl, Eig.new _ rfl _ _ _ _ _ _ _ _, below_new _ _, by simp⟩
  have hO := only_put8 Z q x.rf x.inf x.nd.inn x.nd.tag (.slice P1 n1 q1) (.slice P2 n2 q2) (.slice P3 n3 q3) (.slice A4 x.ws.length q4)
  have b8 : Below w1.heap.size Z (put8 Z q x.rf x.inf x.nd.inn x.nd.tag (.slice P1 n1 q1) (.slice P2 n2 q2) (.slice P3 n3 q3) (.slice A4 x.ws.length q4)) := hO.below (fun b e => by omega) (by omega)
  have e3 : Eig (put8 Z q x.rf x.inf x.nd.inn x.nd.tag (.slice P1 n1 q1) (.slice P2 n2 q2) (.slice P3 n3 q3) (.slice A4 x.ws.length q4)) q x.rf x.inf x.nd.inn x.nd.tag (.slice P1 n1 q1) (.slice P2 n2 q2) (.slice P3 n3 q3) (.slice A4 x.ws.length q4) := e2.put
  obtain ⟨V, hV⟩ : ∃ V, put8 Z q x.rf x.inf x.nd.inn x.nd.tag (.slice P1 n1 q1) (.slice P2 n2 q2) (.slice P3 n3 q3) (.slice A4 x.ws.length q4) = V := ⟨_, rfl⟩
  have hsV : V.heap.size = q + 1 := by rw [← hV]; simp [sZ]
  rw [hV] at b8 e3
  have bV : Below w1.heap.size w1 V := bZ.trans b8
  obtain ⟨G, hG, cG0, cG1, bG, sG⟩ : ∃ (G : World), V.alloc (.cells #[.int .i64 (status), .int .i64 x.inf] i6T) = G ∧ G.cell? ⟨q + 1, 0, none⟩ = some (.int .i64 (status)) ∧ G.cell? ⟨q + 1, 1, none⟩ = some (.int .i64 x.inf) ∧ Below V.heap.size V G ∧ G.heap[q + 1]? = some (.cells #[.int .i64 (status), .int .i64 x.inf] i6T (0, 0)) := ⟨_, rfl, c_new (by omega) rfl, c_new (by omega) rfl, below_new _ _, by rw [← hsV]; exact heap_alloc_new _ _⟩
  have HLK : Hid (LKI d R w a wk c2 s2 (q + 1) (.slice A4 x.ws.length q4) x.ws (.slice (some ⟨q + 1, 0, none⟩) 2 2) [status, x.inf] G) := by
    have hbG : Below w1.heap.size w1 G := bV.trans (bG.mono (by omega))
    have hwo : ∀ b, (Value.slice A4 x.ws.length q4).ownBlock = some b → b < w1.heap.size := fun b e => (World.ownsRow.lt y4 b e).2
    have hgs : q + 1 < G.heap.size := (Array.getElem?_eq_some_iff.1 sG).1
    refine ⟨(hB.lv.mono (R' := R) fun b e => .inl (.inl e)).more hbG (fun b e => e.imp id fun e => ?_), hB.kp.trans (Kp.below hbG fun b e => hB.lv.lt b (.inl (.inl e))), own_at y4 fun b e => hbG.block b (hwo b e), fun b e => by have := hwo b e; omega, ?_, fun b e => ?_, fun b e => ?_, by omega⟩
    · have e2 : (q + 1 : Nat) = b := Option.some.inj e
      omega
    · exact ⟨rfl, .inr ⟨q + 1, 2, _, rfl, Nat.zero_le _, sG, Nat.le_refl _, (by show 2 ≤ maxLen; unfold maxLen; omega), rfl, rfl⟩⟩
    · have e2 : (q + 1 : Nat) = b := Option.some.inj e
      omega
    · have := HRL.out b e
      have := HPP.out
      have := hB.lv.lt b (.inl (.inl e))
      omega
  have HRN : Hid (o = .ret (status :: x.inf :: x.ws) c2 s2) := hB.rn
  have hlen : x.ws.length ≤ 100 := Nat.le_trans hok.1 HND.out.2.2
  have hst : 0 ≤ status ∧ status ≤ 2 := by rcases hok.2.1 with e | e | e <;> (have e : status = _ := e; omega)
  obtain ⟨hst0, hst2⟩ := hst
  obtain ⟨x0, x1, x2, x3, x4, x5, x6, x7⟩ := e2.cells
  obtain ⟨f0, f1, f2, f3, f4, f5, f6, f7⟩ := e2.frees
  obtain ⟨u0, u1, u2, u3, u4, u5, u6, u7⟩ := e3.cells
  have g7 := below_read bG u7
  clear hB hKp hYn hO b8 e2 e3 bZ bV bG y4 y5 hPm HB HRL hrun hok cG0 cG1 sG sZ
  go_wp2_with fail
  (try rw [hG])
  clear x0 x1 x2 x3 x4 x5 x6 x7 f0 f1 f2 f3 f4 f5 f6 f7 u0 u1 u2 u3 u4 u5 u6 u7 g7 hZ hq hV hsV hG hu
  obtain ⟨m, hm⟩ : ∃ m, x.ws.length = m := ⟨_, rfl⟩
  have HMM := Lib.hid hm
  rw [hm] at HLK hlen
  (try rw [hm])
  clear hm
  go_loopg [23, 6] m (fun gk iv tv wr => ∃ (j : Nat) (A : Option Addr) (n0 q0 : Nat), j + gk = m ∧ iv = .int .i64 (j : Int) ∧ tv = .slice A n0 q0 ∧ Hid (LKI d R w a wk c2 s2 (q + 1) (.slice A4 m q4) x.ws (.slice A n0 q0) (status :: x.inf :: x.ws.take j) wr))
  case atStart => exact ⟨0, _, _, _, by omega, rfl, rfl, HLK.out⟩
  case round =>
    clear HLK
    obtain ⟨j, A, n0, q0, hj, rfl, rfl, HH⟩ := hrel
    by_cases hlt : j < m
    case neg =>
      have i1 : ¬ ((j : Int) < (m : Int)) := by omega
      have HE : Hid (PostW d R w a wk idO o (.returned (.slice A n0 q0)) wr) := by
        have h := HH.out
        rw [List.take_of_length_le (by rw [HMM.out]; omega)] at h
        show PostW _ _ _ _ _ _ _ _ _
        rw [HRN.out]
        exact ⟨h.kp, ⟨A, n0, q0, rfl, h.row.sl, by simp [idO, HMM.out]; omega⟩, h.lv.mono fun b e => .inl e⟩
      clear HH
      go_wp2
      go_ret
      exact HE.out
    have i1 : (j : Int) < (m : Int) := by omega
    have i0 : (0 : Int) ≤ (j : Int) := by omega
    have hkw : IntKind.i64.wrap ((j : Int) + 1) = (j : Int) + 1 := IntWalk.i64_in _ (by omega)
    have hjl : j < x.ws.length := by rw [HMM.out]; exact hlt
    obtain ⟨b, off, hA4, hbl, hc⟩ := HH.out.ways.sl.at_ hjl
    subst hA4
    obtain ⟨z, hz⟩ : ∃ z, x.ws[j] = z := ⟨_, rfl⟩
    rw [hz] at hc
    obtain ⟨A', m', c', Z, happ, hN⟩ := HH.out.push (z := z) (by simp; omega)
    have HN : Hid (LKI d R w a wk c2 s2 (q + 1) (.slice (some ⟨b, off, none⟩) m q4) x.ws (.slice A' m' c') (status :: x.inf :: x.ws.take (j + 1)) Z) := by
      have e : x.ws.take (j + 1) = x.ws.take j ++ [z] := by rw [List.take_add_one, List.getElem?_eq_getElem hjl, hz]; rfl
      show LKI _ _ _ _ _ _ _ _ _ _ _ _ _
      rw [e]; exact hN
    clear HH hN hz hbl hjl
    go_wp2_with (at_builtin; refine Lib.wpList_append_run _ rfl _ _ _ _ rfl _ _ rfl rfl _ _ happ ?_)
    go_roundg (gk - 1)
    case measure => omega
    case rel => exact ⟨j + 1, A', m', c', by omega, by go_num, rfl, HN.out⟩
end
end Go.Proofs.Ytoeilogakfggfaa
