/-
  HelpAlone: the helper beside the law's things, and what is read behind it.
-/
import Derived.Test.YtoeilogakfggfaaHq10
import Derived.Test.YtoeilogakfggfaaHk10
namespace Go.Proofs.Ytoeilogakfggfaa
open Go.ChangeShapes Go.WideShapes Go.ChangeAt Go.RowKit
set_option linter.unusedVariables false
set_option linter.unusedSimpArgs false
set_option maxRecDepth 20000

/-- A law's things beside its one helper. -/
def ObH (W : World) (d : Wd) (T a : Nat) (o : Ts) (s : Sig) (w : World) (l : List Thg) : Prop :=
  ∃ X hs os, MB W X d 1 T hs os s w ∧ (hs 0).a = a ∧ (hs 0).P = Stt (ndsN 5) 40 ∧ os 0 = o ∧ ∀ t ∈ l, t.is w ∧ ∀ b, t.blk = some b → X b
/-- A law's things, and its world, to be read. -/
structure Of (W : World) (d : Wd) (s : Sig) (w : World) (l : List Thg) : Prop where
  ws : ∃ FW, WS d FW w s
  own : ∀ t ∈ l, t.is w
  bel : Below W.heap.size W w
section
variable {W : World} {d : Wd} {s s' : Sig} {w w' : World} {l : List Thg} {t : Thg} {i j T a b m k : Nat} {n : Int} {ty : TypeId} {cs : Array Value} {v u : Value} {zs : List Int}
theorem Ob.helper (h : Ob W d s w l) (hh : has s n) :
    Calls Try.prog 10 #[ptr d.W, .int .i64 0, .int .i64 n] w fun e w' => ∃ a, e = .returned (ptr a) ∧ ObH W d 0 a (.run (nrm (tHlp n) s)) s w' l := by
  obtain ⟨X, h1, h2, h3, h4⟩ := h
  refine (MB.helper (me := 0) (nds := ndsN 5) (M := 40) h1 hh (by omega)).mono ?_
  rintro e w' ⟨a, b, rfl, k1, k2⟩
  exact ⟨a, rfl, _, _, _, k1, by rw [upd_at], by rw [upd_at], by rw [upd_at], fun t e => ⟨(h2 t e).same fun b q => k2.block b ((h2 t e).lt q), fun b q => .inl (h3 t e b q).1⟩⟩
theorem ObH.alone {y : Bool} {k : Nat} {kz : Int} (h : ObH W d 0 a (.run (nrm (tHlp n) s)) s w l) (hn : in64 n) (hg : has s n) (hI : Inv 1 101 s) (hS : Stt (ndsN 5) 40 s) (hev : ev (tHlp n) s = ([b2i y], s', k)) (hm : k ≤ 100) (hkz : ((max k 1 : Nat) : Int) = kz) :
    Calls Try.prog 11 #[ptr a] w fun e w' => ∃ A q c T, e = .returned (.tuple #[.slice A q c, .int .i64 kz, .bool true]) ∧ ObH W d T a (.fin [b2i y]) s' w' l := by
  obtain ⟨X, hs, os, h1, rfl, h3, h4, h5⟩ := h
  refine (h1.alone (M := 100) (by omega) h4 h3 hI hS (tj_hlp hn) (kl_hlp n) (good_hlp hg) hev (by omega) hm (by simp) hkz).mono ?_
  rintro e w' ⟨A, q, c, rfl, -, k1, k2⟩
  exact ⟨A, q, c, _, rfl, X, hs, _, k1, rfl, h3, by rw [upd_at], fun t e => ⟨(h5 t e).1.same fun b q => k2.block b (.inr ((h5 t e).2 b q)), (h5 t e).2⟩⟩
theorem ObH.yes {y : Bool} (h : ObH W d T a (.fin [b2i y]) s w l) :
    Calls Try.prog 12 #[ptr a] w fun e w' => e = .returned (.bool y) ∧ ObH W d T a (.fin [b2i y]) s w' l := by
  obtain ⟨X, hs, os, h1, rfl, h3, h4, h5⟩ := h
  refine (h1.yes (by omega) h4).mono ?_
  rintro e w' ⟨rfl, k1⟩
  exact ⟨rfl, X, hs, os, h1.below k1, rfl, h3, h4, fun t e => ⟨(h5 t e).1.same fun b q => k1.block b ((h5 t e).1.lt q), (h5 t e).2⟩⟩
theorem ObH.drewN {o : Ts} (h : ObH W d T a o s w l) (hb : Below w.heap.size w w') : ObH W d T a o s w' l := by
  obtain ⟨X, hs, os, h1, rfl, h3, h4, h5⟩ := h
  exact ⟨X, hs, os, h1.below hb, rfl, h3, h4, fun t e => ⟨(h5 t e).1.same fun b q => hb.block b ((h5 t e).1.lt q), (h5 t e).2⟩⟩
theorem ObH.cells {o : Ts} (h : ObH W d T a o s w l) : w.cell? ⟨d.W, 0, none⟩ = some (ptr d.A) ∧ w.cell? ⟨d.W, 1, none⟩ = some (ptr d.R) := by
  obtain ⟨X, hs, os, h1, -⟩ := h
  exact ⟨h1.cells.1, h1.cells.2.1⟩
theorem ObH.of {o : Ts} (h : ObH W d T a o s w l) : Of W d s w l := by
  obtain ⟨X, hs, os, h1, -, h3, h4, h5⟩ := h
  exact ⟨h1.ws, fun t e => (h5 t e).1, h1.bel⟩
theorem Of.below (h : Of W d s w l) (hb : Below w.heap.size w w') : Of W d s w' l := by
  obtain ⟨⟨FW, h1⟩, h2, h3⟩ := h
  exact ⟨⟨FW, h1.below hb⟩, fun t e => (h2 t e).same fun b q => hb.block b ((h2 t e).lt q), h3.trans (hb.mono h3.size)⟩
theorem Of.drewN (h : Of W d s w l) (q : Nat) : Of W d s (w.drewN q) l := h.below (below_drewN (Below.refl _ w) q)
theorem Of.cells (h : Of W d s w l) : w.cell? ⟨d.W, 0, none⟩ = some (ptr d.A) ∧ w.cell? ⟨d.W, 1, none⟩ = some (ptr d.R) := by
  obtain ⟨FW, h⟩ := h.ws; exact ⟨h.cells.1, h.cells.2.1⟩
theorem Of.at_ (h : Of W d s w l) (hi : l[i]? = some t) : t.is w := h.own t (List.mem_of_getElem? hi)
theorem Of.cell (h : Of W d s w l) (hi : l[i]? = some (.box b ty cs)) {j : Nat} {u : Value} (hj : cs[j]? = some u) : w.cell? ⟨b, j, none⟩ = some u := by
  rw [cell_of_row w b _ _ _ (0, 0) (h.at_ hi)]; exact hj
theorem Of.num {A : Option Addr} {m c j : Nat} {z : Int} (h : Of W d s w l) (hi : l[i]? = some (.row (.slice A m c) ty zs)) (hj : zs[j]? = some z) : ∃ g, A = some ⟨g, 0, none⟩ ∧ w.cell? ⟨g, j, none⟩ = some (.int .i64 z) ∧ m = zs.length := by
  have h := h.at_ hi
  obtain ⟨g, c', u, e, -, -, -, hc, -⟩ := Row.put h (List.getElem?_eq_some_iff.1 hj).1
  have hr := Row.sl h
  obtain ⟨b, off, e2, -, hc2⟩ := hr.at_ (List.getElem?_eq_some_iff.1 hj).1
  injection e with e1 e3 e4
  rw [e1] at e2
  injection e2 with e2
  injection e2 with e5 e6
  subst e5 e6
  refine ⟨g, e1, ?_, e3⟩
  rw [Nat.zero_add, (List.getElem?_eq_some_iff.1 hj).2] at hc2
  exact hc2
end
/-! What is read at the end. -/
section
variable {W : World} {d : Wd} {w w' : World} {l : List Thg} {i : Nat} {f : Nat → Ns} {r : Rc} {st : Int} {al : Bool}
theorem Of.state (h : Of W d (s1 1 5 f r st al) w l) : Calls Try.prog 13 #[ptr d.R, .int .i64 1] w fun e w' => e = .returned (.int .u8 st) ∧ w = w' := by
  obtain ⟨FW, hW⟩ := h.ws
  exact nxW_stateR hW (by simp [s1, sN]) (i := 0) (x := ⟨r, st, al⟩) rfl
theorem Of.all (h : Of W d (s1 1 5 f r st al) w l) : Calls Try.prog 14 #[ptr d.R, .int .i64 1] w fun e w' => e = .returned (.bool al) ∧ w = w' := by
  obtain ⟨FW, hW⟩ := h.ws
  exact nxW_allR hW (by simp [s1, sN]) (i := 0) (x := ⟨r, st, al⟩) rfl
theorem Of.info (h : Of W d (s1 1 5 f r st al) w l) (hf : ∀ i, i < 5 → in64 (f i).inf) (hi : i < 5) : Calls Try.prog 15 #[ptr d.A, .int .i64 (rfN i)] w fun e w' => e = .returned (.int .i64 (f i).inf) ∧ w = w' := by
  obtain ⟨FW, hW⟩ := h.ws
  exact nxW_infoR hW (ok_sN hf (by simp)) (arN_hit hi (by omega))
theorem Of.mark (h : Of W d (s1 1 5 f r st al) w l) (hf : ∀ i, i < 5 → in64 (f i).inf) (hi : i < 5) : Calls Try.prog 16 #[ptr d.A, .int .i64 (rfN i)] w fun e w' => e = .returned (.bool (f i).mark) ∧ w = w' := by
  obtain ⟨FW, hW⟩ := h.ws
  exact nxW_markR hW (ok_sN hf (by simp)) (arN_hit hi (by omega))
theorem Of.wayK (h : Of W d (s1 1 5 f r st al) w l) (hf : ∀ i, i < 5 → in64 (f i).inf) (hi : i < 5) (k : Int) : Calls Try.prog 17 #[ptr d.A, .int .i64 (rfN i), .int .i64 k] w fun e w' => e = .returned (.int .i64 (wayAt (nodePa i (f i)) k)) ∧ w = w' := by
  obtain ⟨FW, hW⟩ := h.ws
  exact nxW_way hW (ok_sN hf (by simp)) (arN_hit hi (by omega)) k
theorem Of.faults (h : Of W d (s1 1 5 f r st al) w l) : Calls Try.prog 18 #[ptr d.A] w fun e w' => e = .returned (.int .i64 0) ∧ w = w' := by
  obtain ⟨FW, hW⟩ := h.ws
  exact nxW_faults hW
end
/-! The helper of the law's record. -/
section
variable {f : Nat → Ns} {on : List Nat} {is : List Int} {kp wy od : Int} {al : Bool}
/-- What comes of the helper alone, as the law reckons it. -/
structure OHelp (on : List Nat) (is : List Int) (kp wy od : Int) (rr : Rc) (al : Bool) (f F : Nat → Ns) (tc : Nat) (st : Int) (dn set : Bool) : Prop where
  eq : oHelp 1 5 on is kp wy od 99 rr 1 al (oTk 1 (on.zip is) f) = (dn, s1 1 5 F rr st (al || !set), tc)
theorem has1 {f : Nat → Ns} {r : Rc} {st : Int} {al : Bool} : has (s1 1 5 f r st al) 1 := by
  show rcAt _ 1 ≠ none
  intro e
  cases e
theorem stt_1 {r : Rc} {st : Int} (hf : ∀ i, i < 5 → in64 (f i).w0 ∧ in64 (f i).w1) (hr : GoodR r) (hn : in64 r.nw) : Stt (ndsN 5) 40 (s1 1 5 f r st al) :=
  stt_sN (by omega) hf (fun x hx => by rw [List.mem_singleton.1 hx]; exact ⟨hr, hn⟩) (by simp)
theorem good_rcN (hl : on.length = is.length) (h6 : on.length ≤ 6) (hk : 0 ≤ kp) : GoodR (rcN on is kp wy od 99) := ⟨hk, by simp [rcN, hl], by simp [rcN]; omega⟩
theorem oTk_le (n : Int) : ∀ (l : List (Nat × Int)) (f : Nat → Ns), (oTk n l f).2.1 ≤ 2 * l.length := by
  intro l
  induction l with
  | nil => intro f; simp [oTk]
  | cons p l ih =>
    intro f
    simp only [oTk]
    split
    · refine Nat.le_trans (Nat.add_le_add_right (ih _) 1) ?_
      simp only [List.length_cons]; omega
    · split
      · have := ih f; simp only [List.length_cons]; omega
      · simp only [List.length_cons]; omega
/-- Behind some nodes of the law's own taking: what is left. -/
structure TkI (l : List (Nat × Int)) (f g : Nat → Ns) (tq : Nat) (rest : List (Nat × Int)) : Prop where
  eq : oTk 1 l f = ((oTk 1 rest g).1, (oTk 1 rest g).2.1 + tq, (oTk 1 rest g).2.2)
section
variable {l rest : List (Nat × Int)} {f g : Nat → Ns} {tq : Nat} {p : Nat × Int}
theorem TkI.begin_ : TkI l f f 0 l := ⟨rfl⟩
theorem TkI.take (h : TkI l f g tq (p :: rest)) (e : (g p.1).inf = p.2) : TkI l f (upd g p.1 { g p.1 with inf := 1 }) (tq + 1) rest := by
  refine ⟨h.eq.trans ?_⟩
  simp only [oTk, if_pos e]
  refine Prod.ext rfl (Prod.ext ?_ rfl)
  simp only; omega
theorem TkI.pass (h : TkI l f g tq (p :: rest)) (e : ¬ (g p.1).inf = p.2) (e2 : (g p.1).inf = 1) : TkI l f g (tq + 2) rest := by
  refine ⟨h.eq.trans ?_⟩
  simp only [oTk, if_neg e, if_pos e2]
  refine Prod.ext rfl (Prod.ext ?_ rfl)
  simp only; omega
theorem TkI.stop (h : TkI l f g tq (p :: rest)) (e : ¬ (g p.1).inf = p.2) (e2 : ¬ (g p.1).inf = 1) : oTk 1 l f = (g, tq + 2, true) := by
  refine h.eq.trans ?_
  simp only [oTk, if_neg e, if_neg e2]
  refine Prod.ext rfl (Prod.ext ?_ rfl)
  simp only; omega
theorem TkI.done (h : TkI l f g tq []) : oTk 1 l f = (g, tq, false) := by
  refine h.eq.trans ?_
  simp [oTk]
end
/-- Behind some nodes of the law's own marking: what is left. -/
structure MkI (on : List Nat) (kk : Nat) (g m : Nat → Ns) (j : Nat) : Prop where
  eq : oMk (on.drop kk) g = oMk (on.drop (max kk j)) m
section
variable {on : List Nat} {g m : Nat → Ns} {kk j i : Nat}
theorem MkI.begin_ : MkI on kk g g 0 := ⟨by rw [Nat.max_eq_left (Nat.zero_le _)]⟩
theorem MkI.skip (h : MkI on kk g m j) (e : j < kk) : MkI on kk g m (j + 1) := ⟨by rw [h.eq, Nat.max_eq_left (by omega), Nat.max_eq_left (by omega)]⟩
theorem MkI.mark (h : MkI on kk g m j) (e : kk ≤ j) (hj : on[j]? = some i) : MkI on kk g (upd m i { m i with mark := true }) (j + 1) := by
  refine ⟨?_⟩
  rw [h.eq, Nat.max_eq_right e, Nat.max_eq_right (by omega)]
  obtain ⟨hl, hi⟩ := List.getElem?_eq_some_iff.1 hj
  rw [List.drop_eq_getElem_cons hl, hi]
  rfl
theorem MkI.done (h : MkI on kk g m j) (e : on.length ≤ j) : oMk (on.drop kk) g = m := by
  rw [h.eq, List.drop_eq_nil_of_le (by omega)]
  rfl
end
/-- What the law keeps all along. -/
structure HAi (on : List Nat) (is : List Int) (n kk : Nat) (wy od : Int) (rr : Rc) (f : Nat → Ns) : Prop where
  l1 : on.length = n
  l2 : is.length = n
  six : n ≤ 6
  five : ∀ x ∈ on, x < 5
  k8 : kk < 8
  wlo : -1 ≤ wy
  whi : wy ≤ 2
  rc : rr = rcN on is (kk : Int) wy od 99
  w0 : ∀ i, (f i).w0 = 200 + 10 * (i : Int)
  w1 : ∀ i, (f i).w1 = 201 + 10 * (i : Int)
  mk0 : ∀ i, (f i).mark = false
  fin : ∀ i, i < 5 → in64 (f i).inf
  isr : ∀ x ∈ is, -4 < x ∧ x < 4
section
variable {on : List Nat} {is : List Int} {n kk tq tc : Nat} {wy od st : Int} {rr r : Rc} {f g F : Nat → Ns} {al dn : Bool}
theorem HAi.good (h : HAi on is n kk wy od rr f) : GoodR rr ∧ in64 rr.nw := by
  rw [h.rc]
  exact ⟨good_rcN (h.l1.trans h.l2.symm) (by have := h.l1; have := h.six; omega) (Int.natCast_nonneg _), by show in64 99; unfold in64; omega⟩
theorem HAi.stt (h : HAi on is n kk wy od rr f) : Stt (ndsN 5) 40 (s1 1 5 f rr 1 al) :=
  stt_1 (fun i hi => by rw [h.w0, h.w1]; exact ⟨in64_small (by omega), in64_small (by omega)⟩) h.good.1 h.good.2
theorem HAi.inv (h : HAi on is n kk wy od rr f) : Inv 1 101 (s1 1 5 f rr 1 al) := inv_sN (by omega) (by omega) (by omega) h.fin (by simp)
theorem HAi.ev (h : HAi on is n kk wy od rr f) {b : Bool} {s' : Sig} (ho : oHelp 1 5 on is (kk : Int) wy od 99 rr 1 al (oTk 1 (on.zip is) f) = (b, s', tc)) : ev (tHlp 1) (s1 1 5 f rr 1 al) = ([b2i b], s', tc) := by
  have e : tHelp rr 1 = tHelp (rcN on is (kk : Int) wy od 99) 1 := by rw [h.rc]
  rw [ev_hlp, rcOf_1, e, ev_help (r := rr) (st := 1) (al := al) h.five (by omega) f, ho]
theorem HAi.few (h : HAi on is n kk wy od rr f) {b : Bool} {s' : Sig} (ho : oHelp 1 5 on is (kk : Int) wy od 99 rr 1 al (oTk 1 (on.zip is) f) = (b, s', tc)) : 1 ≤ tc ∧ tc ≤ 100 := by
  have h1 := oTk_le 1 (on.zip is) f
  have h2 : (on.zip is).length ≤ 6 := by rw [List.length_zip]; have := h.l1; have := h.six; omega
  have h3 : (oHelp 1 5 on is (kk : Int) wy od 99 rr 1 al (oTk 1 (on.zip is) f)).2.2 = tc := by rw [ho]
  have h4 := h.l1
  have h5 := h.six
  unfold oHelp at h3
  split at h3
  · split at h3 <;> (simp only at h3; omega)
  · simp only at h3
    split at h3 <;> omega
/-- One of the nodes was another record's. -/
theorem help_set (ho : oTk 1 (on.zip is) f = (g, tq, true)) : oHelp 1 5 on is (kk : Int) wy od 99 rr 1 al (oTk 1 (on.zip is) f) = (al, s1 1 5 g rr (if al then 1 else 0) al, if al then tq + 1 else tq + 2) := by
  rw [ho]
  cases al <;> rfl
/-- All were taken. -/
theorem help_all (ho : oTk 1 (on.zip is) f = (g, tq, false)) : oHelp 1 5 on is (kk : Int) wy od 99 rr 1 al (oTk 1 (on.zip is) f) = (true, s1 1 5 (oWay on wy od 99 (oMk (on.drop kk) g)) rr 2 true, tq + (2 + (on.length - kk) + (if on = [] then 0 else 1))) := by
  rw [ho]
  rfl
/-- The first node's ways, changed or not. -/
theorem oway_yes0 {x : Nat} {l : List Nat} (h : (g x).w0 = od) : oWay (x :: l) 0 od 99 g = upd g x { g x with w0 := 99 } := by
  simp only [oWay, wayS, h]; rfl
theorem oway_yes1 {x : Nat} {l : List Nat} (h : (g x).w1 = od) : oWay (x :: l) 1 od 99 g = upd g x { g x with w1 := 99 } := by
  simp only [oWay, wayS, h]; rfl
theorem oway_no {x : Nat} {l : List Nat} (h0 : ¬ (wy = 0 ∧ (g x).w0 = od)) (h1 : ¬ (wy = 1 ∧ (g x).w1 = od)) : oWay (x :: l) wy od 99 g = g := by
  simp only [oWay, wayS, if_neg h0, if_neg h1, upd_same]
end
/-! The law's code from a region on. -/
def headR : Code → Option Nat
  | .region n _ _ => some n
  | .seq a _ => headR a
  | _ => none
def fromR (n : Nat) : Code → Option Code
  | .seq a b => if headR a = some n then some (.seq a b) else match fromR n a with
    | some c => some c
    | none => fromR n b
  | .block _ c => fromR n c
  | .scope c => fromR n c
  | .loop c => fromR n c
  | _ => none
noncomputable def ha28 : Code := (Try.f3.body.bind (fromR 28)).getD .skip
noncomputable def ha42 : Code := (Try.f3.body.bind (fromR 42)).getD .skip
noncomputable def ha45 : Code := (Try.f3.body.bind (fromR 45)).getD .skip
noncomputable def ha58 : Code := (Try.f3.body.bind (fromR 58)).getD .skip
noncomputable def ha62 : Code := (Try.f3.body.bind (fromR 62)).getD .skip
/-- Behind the law's own taking. -/
def L3 (on : List Nat) (is : List Int) (f : Nat → Ns) (al : Bool) (g : Nat → Ns) (tc : Nat) (st : Int) (dn set : Bool) : Prop :=
  ∃ tq, oTk 1 (on.zip is) f = (g, tq, set) ∧ tq ≤ 12 ∧ dn = (al || !set) ∧ st = (if set then (if al then 1 else 0) else 2) ∧ tc = (if set then (if al then tq + 1 else tq + 2) else tq)
def FirstI (on : List Nat) (x0 x1 : Int) : Prop := ∀ x l, on = x :: l → x0 = 200 + 10 * (x : Int) ∧ x1 = 201 + 10 * (x : Int)
def FirstF (on : List Nat) (F : Nat → Ns) (x0 x1 : Int) : Prop := (∀ i, i < 5 → in64 (F i).inf) ∧ ∀ x l, on = x :: l → x0 = (F x).w0 ∧ x1 = (F x).w1
theorem zip_drop {on : List Nat} {is : List Int} {j x : Nat} {y : Int} (h1 : on[j]? = some x) (h2 : is[j]? = some y) : (on.zip is).drop j = (x, y) :: (on.zip is).drop (j + 1) := by
  have h : (on.zip is)[j]? = some (x, y) := by rw [List.getElem?_zip_eq_some]; exact ⟨h1, h2⟩
  obtain ⟨hl, hi⟩ := List.getElem?_eq_some_iff.1 h
  rw [List.drop_eq_getElem_cons hl, hi]
theorem ints2_at {on : List Nat} {j x : Nat} (h : on[j]? = some x) : (ints2 on)[j]? = some (x : Int) := by simp [ints2, h]
theorem oTk_fin {l : List (Nat × Int)} {f : Nat → Ns} (hf : ∀ i, i < 5 → in64 (f i).inf) : ∀ i, i < 5 → in64 ((oTk 1 l f).1 i).inf := by
  induction l generalizing f with
  | nil => exact hf
  | cons p l ih =>
    intro i hi
    simp only [oTk]
    split
    · refine ih (fun j hj => ?_) i hi
      by_cases e : j = p.1
      · subst e; rw [upd_at]; exact in64_small (z := 1) (by omega)
      · rw [upd_ne _ _ e]; exact hf j hj
    · split
      · exact ih hf i hi
      · exact hf i hi
theorem mrkC_same {f g : Nat → Ns} (h : ∀ i, (g i).mark = (f i).mark) : mrkC g = mrkC f := by unfold mrkC; rw [h, h, h, h, h]
theorem infC_same {f g : Nat → Ns} (h : ∀ i, (g i).inf = (f i).inf) : infC g = infC f := by unfold infC; rw [h, h, h, h, h]
/-- One was another record's: the end of the law's own reckoning. -/
theorem L3.set_ {on : List Nat} {is : List Int} {n kk : Nat} {wy od st : Int} {rr : Rc} {f g : Nat → Ns} {al dn : Bool} {tc : Nat} (hI : HAi on is n kk wy od rr f) (h : L3 on is f al g tc st dn true) {x0 x1 : Int} (hx : FirstI on x0 x1) :
    oHelp 1 5 on is (kk : Int) wy od 99 rr 1 al (oTk 1 (on.zip is) f) = (dn, s1 1 5 g rr st dn, tc) ∧ FirstF on g x0 x1 ∧ mrkC f = mrkC g := by
  obtain ⟨tq, h1, h2, h3, h4, h5⟩ := h
  have hs := fun i => oTk_same (n := 1) (on.zip is) f i
  have hf := oTk_fin (l := on.zip is) hI.fin
  rw [h1] at hs hf
  rw [help_set h1, h3, h4, h5]
  refine ⟨by cases al <;> rfl, ⟨hf, fun x l e => ?_⟩, mrkC_same fun i => ((hs i).2.2).symm⟩
  rw [(hs x).1, (hs x).2.1, hI.w0, hI.w1]
  exact hx x l e
/-- All were taken: the end of the law's own reckoning, but for the way. -/
theorem L3.all_ {on : List Nat} {is : List Int} {n kk : Nat} {wy od st : Int} {rr : Rc} {f g m : Nat → Ns} {al dn : Bool} {tc j : Nat} (hI : HAi on is n kk wy od rr f) (h : L3 on is f al g tc st dn false) (hm : MkI on kk g m j) (hj : n ≤ j) :
    oHelp 1 5 on is (kk : Int) wy od 99 rr 1 al (oTk 1 (on.zip is) f) = (dn, s1 1 5 (oWay on wy od 99 m) rr st dn, tc + (2 + (n - kk) + (if on = [] then 0 else 1))) ∧ (∀ i, i < 5 → in64 (oWay on wy od 99 m i).inf) ∧ infC (oWay on wy od 99 m) = infC g ∧ mrkC (oWay on wy od 99 m) = mrkC m ∧ (∀ x, (m x).w0 = 200 + 10 * (x : Int) ∧ (m x).w1 = 201 + 10 * (x : Int)) := by
  obtain ⟨tq, h1, h2, h3, h4, h5⟩ := h
  have hs := fun i => oTk_same (n := 1) (on.zip is) f i
  have hf := oTk_fin (l := on.zip is) hI.fin
  rw [h1] at hs hf
  have e := hm.done (by rw [hI.l1]; exact hj)
  have hq := fun i => oMk_same (on.drop kk) g i
  rw [e] at hq
  have hw := fun i => oWay_same on wy od 99 m i
  have ht : dn = true := by rw [h3]; simp
  have hst : st = 2 := by rw [h4]; rfl
  have htc : tc = tq := by rw [h5]; rfl
  rw [help_all h1, e, hI.l1, ht, hst, htc]
  refine ⟨rfl, fun i hi => by rw [(hw i).1, (hq i).1]; exact hf i hi, infC_same fun i => by rw [(hw i).1, (hq i).1], mrkC_same fun i => (hw i).2, fun x => ?_⟩
  rw [(hq x).2.1, (hq x).2.2, (hs x).1, (hs x).2.1, hI.w0, hI.w1]
  exact ⟨rfl, rfl⟩
theorem L3.mrk {on : List Nat} {is : List Int} {st : Int} {f g : Nat → Ns} {al dn set : Bool} {tc : Nat} (h : L3 on is f al g tc st dn set) : mrkC f = mrkC g ∧ tc ≤ 14 := by
  obtain ⟨tq, h1, h2, h3, h4, h5⟩ := h
  have hs := fun i => oTk_same (n := 1) (on.zip is) f i
  rw [h1] at hs
  refine ⟨mrkC_same fun i => ((hs i).2.2).symm, ?_⟩
  rw [h5]
  split
  · split <;> omega
  · omega
theorem first_0 {m : Nat → Ns} {x : Nat} {l : List Nat} {od : Int} (h : (m x).w0 = od) : ((oWay (x :: l) 0 od 99 m) x).w0 = 99 ∧ ((oWay (x :: l) 0 od 99 m) x).w1 = (m x).w1 := by
  rw [oway_yes0 h, upd_at]; exact ⟨rfl, rfl⟩
theorem first_1 {m : Nat → Ns} {x : Nat} {l : List Nat} {od : Int} (h : (m x).w1 = od) : ((oWay (x :: l) 1 od 99 m) x).w0 = (m x).w0 ∧ ((oWay (x :: l) 1 od 99 m) x).w1 = 99 := by
  rw [oway_yes1 h, upd_at]; exact ⟨rfl, rfl⟩
/-! Two cells in a variable of their own. -/
abbrev arT : TypeId := 48
section
variable {W : World} {d : Wd} {s : Sig} {w : World} {l : List Thg} {i b : Nat} {ty : TypeId} {u v u' v' : Value}
theorem Ob.put2 (h : Ob W d s w l) (hi : l[i]? = some (.box b ty #[u, v])) : Ob W d s ((w.setCell ⟨b, 0, none⟩ u').setCell ⟨b, 1, none⟩ v') (l.set i (.box b ty #[u', v'])) := by
  have hil := (List.getElem?_eq_some_iff.1 hi).1
  have h1 := h.set hi 0 u'
  have hi1 : (l.set i (.box b ty (#[u, v].setIfInBounds 0 u')))[i]? = some (.box b ty #[u', v]) := by
    rw [List.getElem?_set, if_pos rfl, if_pos hil]; rfl
  have h2 := h1.set hi1 1 v'
  rw [List.set_set] at h2
  exact h2
theorem Ob.pair (h : Ob W d s w l) :
    ∃ (Y : World) (q : Nat) (Z : World), w.alloc (.cells #[.int .i64 0, .int .i64 0] arT) = Y ∧ w.heap.size = q ∧ Y.frozen? ⟨q, 0, none⟩ = false ∧ Y.frozen? ⟨q, 1, none⟩ = false ∧ Y.cell? ⟨q, 0, none⟩ = some (.int .i64 0) ∧ Y.cell? ⟨q, 1, none⟩ = some (.int .i64 0) ∧ (Y.setCell ⟨q, 0, none⟩ (.int .i64 0)).setCell ⟨q, 1, none⟩ (.int .i64 0) = Z ∧ Ob W d s Z (l ++ [.box q arT #[.int .i64 0, .int .i64 0]]) := by
  have h1 := h.box #[.int .i64 0, .int .i64 0] arT
  have hl : (l ++ [Thg.box w.heap.size arT #[.int .i64 0, .int .i64 0]])[l.length]? = some (.box w.heap.size arT #[.int .i64 0, .int .i64 0]) := by simp
  have h2 := h1.put2 (u' := .int .i64 0) (v' := .int .i64 0) hl
  refine ⟨_, _, _, rfl, rfl, h1.free hl 0, h1.free hl 1, h1.cell hl rfl, h1.cell hl rfl, rfl, ?_⟩
  have e : (l ++ [Thg.box w.heap.size arT #[.int .i64 0, .int .i64 0]]).set l.length (.box w.heap.size arT #[.int .i64 0, .int .i64 0]) = l ++ [.box w.heap.size arT #[.int .i64 0, .int .i64 0]] := by simp
  rw [e] at h2
  exact h2
end
end
end Go.Proofs.Ytoeilogakfggfaa
