/-
  Begin and Record within work; a thread of whatever work.
-/
import Derived.Test.YtcegianjpifnbaaGreatPe
import Derived.Deep.LoopGhost
import Derived.Deep.CutBlock
import Derived.Deep.DeepCutAuto
import Derived.Deep.Cut
import Derived.Lib.MinMax
namespace Go.Proofs.YtcegianjpifnbaaGreat
open Go.ChangeShapes Go.WideShapes Go.ChangeAt Go.RowKit
set_option linter.unusedVariables false
set_option linter.unusedSimpArgs false
set_option maxRecDepth 20000

section
variable {d : Wd} {R R' : Nat → Prop} {w w' w0 : World} {a st ph k me : Nat} {wk : Value} {zs : List Int} {c : Cur} {s : Sig} {n : Int}
theorem gSay_len (i : Nat) (z : Int) (s : Sig) : (gSay i z s).2.S.length = s.S.length := by
  simp only [gSay, setSaid]
  split
  · rw [List.length_set]
  · rfl
theorem one_box (w : World) (a W me : Nat) : ∃ (X : World) (p : Nat), w.alloc (.cells #[ptr a, ptr W, .int .i64 (me : Int)] tkT) = X ∧ w.heap.size = p ∧ Below w.heap.size w X ∧ Tk X p a W me ∧ X.heap.size = p + 1 :=
  ⟨_, _, rfl, rfl, below_new _ _, Tk.new w a W me, by simp⟩
/-- A touch that was come by. -/
theorem run_do {g : Sig → Int × Sig} {c c' : Cur} {s s' : Sig} {z : Int} (h : run (tDo g) c s = .ret z c' s') :
    (c.live = true ∧ c.k < c.zs.length ∧ c' = ⟨c.zs, c.st, c.k + 1, true⟩ ∧ s' = s ∧ z = c.zs.getD c.k 0) ∨ (c.live = true ∧ ¬ c.k < c.zs.length ∧ c' = ⟨c.zs ++ [(g s).1], c.st + 1, c.k + 1, false⟩ ∧ s' = (g s).2 ∧ z = (g s).1) := by
  obtain ⟨zs, st, k, live⟩ := c
  cases live with
  | false => simp [tDo, run] at h
  | true =>
    by_cases hk : k < zs.length
    · simp only [tDo, run, if_true] at h
      rw [if_pos hk] at h
      injection h with h1 h2 h3
      exact .inl ⟨rfl, hk, h2.symm, h3.symm, h1.symm⟩
    · simp only [tDo, run, if_true] at h
      rw [if_neg hk] at h
      injection h with h1 h2 h3
      exact .inr ⟨rfl, hk, h2.symm, h3.symm, h1.symm⟩
theorem run_tch {α : Type} (g : Sig → Int × Sig) (K : Int → Tr α) (c : Cur) (s : Sig) : run (.tch g K) c s = (run (tDo g) c s).bind fun z c s => run (K z) c s := run_bind (tDo g) K c s
theorem saidOf_in (hf : Fit s) (i : Nat) : in64 (saidOf s.S i) := by
  unfold saidOf
  split
  · rename_i x hx; exact hf.said x (List.mem_of_getElem? hx)
  · unfold in64; omega
/-- Where allAreAt is. -/
structure AA (d : Wd) (R : Nat → Prop) (w : World) (a me : Nat) (wk : Value) (p : Nat) (o : Out Bool) (now : Int) (s : Sig) (r j : Nat) (wr : World) (c : Cur) : Prop where
  run : o = run (tAll now r j) c s
  lv : Lv d (fun b => R b ∨ b = p) wr a wk c s
  kp : Kp R w wr
  tk : Tk wr p a d.W me
end
end Go.Proofs.YtcegianjpifnbaaGreat
namespace Go.Proofs.YtcegianjpifnbaaGreat
open Go.ChangeShapes Go.WideShapes Go.ChangeAt Go.RowKit
set_option linter.unusedVariables false
set_option linter.unusedSimpArgs false
set_option maxRecDepth 20000

section
variable {d : Wd} {R R' : Nat → Prop} {w w' w0 : World} {a st ph k me : Nat} {wk : Value} {zs : List Int} {c : Cur} {s : Sig} {n : Int}
theorem gRdy_in (hf : Fit s) (i : Nat) (n : Int) : in64 (gRdy i n s).1 := by
  have h0 : in64 0 := by unfold in64; omega
  unfold gRdy
  split
  · rename_i y p q hx
    split
    · exact ((hf.que _ (List.mem_of_getElem? hx)).2 p (List.mem_cons_self ..)).1
    · exact h0
  · exact h0
/-- Fuel enough. -/
def fuel (c : Cur) (M : Nat) : Prop := (c.live = true → c.zs.length + 2 ≤ M + c.k) ∧ (c.live = false → 1 ≤ M)
/-- Where freeReady is. -/
structure FR (d : Wd) (R : Nat → Prop) (w : World) (a me : Nat) (wk : Value) (p q : Nat) (o : Out Unit) (n : Int) (M : Nat) (wr : World) (c : Cur) (s : Sig) : Prop where
  run : o = run (tFree me n M) c s
  lv : Lv d (fun b => R b ∨ b = p ∨ b = q) wr a wk c s
  kp : Kp R w wr
  tk : Tk wr p a d.W me
  cn : wr.cell? ⟨q, 0, none⟩ = some (.int .i64 n)
  fu : fuel c M
  len : c.live = true → me < s.S.length
end
end Go.Proofs.YtcegianjpifnbaaGreat
namespace Go.Proofs.YtcegianjpifnbaaGreat
open Go.ChangeShapes Go.WideShapes Go.ChangeAt Go.RowKit
set_option linter.unusedVariables false
set_option linter.unusedSimpArgs false
set_option maxRecDepth 20000

section
variable {α β : Type}
/-- What each touch keeps. -/
def Tr.keeps (P : Sig → Prop) : Tr α → Prop
  | .ret _ => True
  | .tch g K => (∀ s, P s → P (g s).2) ∧ ∀ z, (K z).keeps P
  | .lk _ K => ∀ r, (K r).keeps P
theorem run_keeps {P : Sig → Prop} {t : Tr α} {c c' : Cur} {s s' : Sig} {v : α} (ht : t.keeps P) (hs : P s) (h : run t c s = .ret v c' s') : P s' := by
  induction t generalizing c s with
  | ret v => simp only [run] at h; injection h with _ _ h; exact h ▸ hs
  | tch g K ih =>
    simp only [run] at h
    split at h
    · split at h
      · exact ih _ (ht.2 _) hs h
      · exact ih _ (ht.2 _) (ht.1 s hs) h
    · cases h
  | lk n K ih => exact ih _ (ht _) hs h
theorem run_live {t : Tr α} {c c' : Cur} {s s' : Sig} {v : α} (h : run t c s = .ret v c' s') (hl : c'.live = true) : c.live = true ∧ s' = s ∧ c'.zs = c.zs := by
  induction t generalizing c s with
  | ret v => simp only [run] at h; injection h with _ h2 h3; subst h2 h3; exact ⟨hl, rfl, rfl⟩
  | tch g K ih =>
    simp only [run] at h
    split at h
    · rename_i h0
      split at h
      · have := ih _ h; exact ⟨h0, this.2.1, this.2.2⟩
      · have := ih _ h; exact absurd this.1 (by simp)
    · cases h
  | lk n K ih => exact ih _ h
theorem keeps_bind {P : Sig → Prop} {t : Tr α} {K : α → Tr β} (ht : t.keeps P) (hK : ∀ v, (K v).keeps P) : (t.bind K).keeps P := by
  induction t with
  | ret v => exact hK v
  | tch g K' ih => exact ⟨ht.1, fun z => ih z (ht.2 z)⟩
  | lk n K' ih => exact fun r => ih r (ht r)
end
/-- So many threads. -/
def lenP (L : Nat) (s : Sig) : Prop := s.S.length = L
theorem lenP_all (L : Nat) (now : Int) (r j : Nat) : (tAll now r j).keeps (lenP L) := by
  induction r generalizing j with
  | zero => exact trivial
  | succ r ih =>
    refine ⟨fun s h => h, fun z => ?_⟩
    dsimp only
    split
    · exact trivial
    · exact ih _
section
variable {d : Wd} {R R' : Nat → Prop} {w w' w0 : World} {a st ph k me : Nat} {wk : Value} {zs : List Int} {c : Cur} {s : Sig} {n : Int} {α : Type}
theorem Lv0.setR (h : Lv0 d R w a wk zs st ph k s) {q j : Nat} (hq : R q) (v : Value) : Lv0 d R (w.setCell ⟨q, j, none⟩ v) a wk zs st ph k s := by
  obtain ⟨F, FW, T, h1, h2, h3, h4⟩ := h
  have hne : ∀ b, b ≠ q → (w.setCell ⟨q, j, none⟩ v).heap[b]? = w.heap[b]? := fun b e => heap_setCell_other w ⟨q, j, none⟩ b v (fun e2 => e e2)
  exact ⟨F, FW, T, h1.keep (fun b e => hne b fun e2 => (h4 q hq).2.1 (e2 ▸ e)) (by simp), h2.keep (fun b e => hne b fun e2 => (h4 q hq).2.2 (e2 ▸ e)) (by simp), h3, fun b e => ⟨by simpa using (h4 b e).1, (h4 b e).2⟩⟩
theorem Lv.setR (h : Lv d R w a wk c s) {q j : Nat} (hq : R q) (v : Value) : Lv d R (w.setCell ⟨q, j, none⟩ v) a wk c s := ⟨h.lv.setR hq v, h.ok, h.few, h.in64, h.fit⟩
theorem Kp.set (R : Nat → Prop) (w : World) {q j : Nat} (v : Value) (hq : ¬ R q) : Kp R w (w.setCell ⟨q, j, none⟩ v) := ⟨rfl, rfl, rfl, by simp, fun b e => heap_setCell_other w ⟨q, j, none⟩ b v (fun e2 => hq (by have e3 : b = q := e2; rw [← e3]; exact e))⟩
theorem run_in64 {g : Sig → Int × Sig} {c' : Cur} {s' : Sig} {z : Int} (h : Lv d R w a wk c s) (hg : c.live = true → in64 (g s).1) (hr : run (tDo g) c s = .ret z c' s') : in64 z := by
  rcases run_do hr with ⟨e1, e2, _, _, rfl⟩ | ⟨e1, _, _, _, rfl⟩
  · refine h.in64 _ ?_
    simp only [List.getD, List.getElem?_eq_getElem e2, Option.getD_some]
    exact List.getElem_mem e2
  · exact hg e1
theorem now_in (hf : Fit s) : in64 (gNow s).1 := by have := hf.now; simp only [gNow]; unfold in64; omega
/-- Where Begin is: t is to come; X is kept. -/
structure BS (d : Wd) (R X : Nat → Prop) (w : World) (a me : Nat) (wk : Value) (p : Nat) (L N : Nat) (o : Out α) (t : Tr α) (wr : World) (c : Cur) (s : Sig) : Prop where
  rn : o = run t c s
  lv : Lv d X wr a wk c s
  sub : ∀ b, R b ∨ b = p → X b
  kp : Kp R w wr
  tk : Tk wr p a d.W me
  len : s.S.length = L
  fu : c.live = true → c.zs.length + 2 ≤ N
variable {X : Nat → Prop} {p L N : Nat} {o : Out α} {wr w1 : World}
theorem BS.wcell {t : Tr α} (h : BS d R X w a me wk p L N o t wr c s) : wr.cell? ⟨d.W, 2, none⟩ = some (ptr d.E) ∧ wr.cell? ⟨d.W, 0, none⟩ = some (ptr d.A) := by
  obtain ⟨F, FW, T, h1, h2, h3, h4⟩ := h.lv.lv
  exact ⟨h2.cells.2.2.1, h2.cells.1⟩
theorem BS.more {t : Tr α} {X' : Nat → Prop} (h : BS d R X w a me wk p L N o t wr c s) (hb : Below wr.heap.size wr w') (hx : ∀ b, X' b → X b ∨ (wr.heap.size ≤ b ∧ b < w'.heap.size)) (hs : ∀ b, R b ∨ b = p → X' b) : BS d R X' w a me wk p L N o t w' c s :=
  ⟨h.rn, h.lv.more hb hx, hs, h.kp.trans (Kp.below hb fun b e => h.lv.lt b (h.sub b (.inl e))), h.tk.cells (hb.block p (h.lv.lt p (h.sub p (.inr rfl)))), h.len, h.fu⟩
theorem BS.below {t : Tr α} (h : BS d R X w a me wk p L N o t wr c s) (hb : Below wr.heap.size wr w') : BS d R X w a me wk p L N o t w' c s := h.more hb (fun b e => .inl e) h.sub
theorem BS.setR {t : Tr α} (h : BS d R X w a me wk p L N o t wr c s) {q j : Nat} (hq : X q) (v : Value) (nR : ¬ R q) (np : q ≠ p) : BS d R X w a me wk p L N o t (wr.setCell ⟨q, j, none⟩ v) c s :=
  ⟨h.rn, h.lv.setR hq v, h.sub, h.kp.trans (Kp.set R wr v nR), h.tk.cells (heap_setCell_other wr ⟨q, j, none⟩ p v (fun e => np e.symm)), h.len, h.fu⟩
/-- A call's outcome: what comes behind it. -/
theorem BS.next {β : Type} {t : Tr β} {K : β → Tr α} {V : β → Value} {v : β} {c' : Cur} {s' : Sig} {e : Ending} (h : BS d R X w a me wk p L N o (t.bind K) wr c s) (hr : run t c s = .ret v c' s') (hk : t.keeps (lenP L))
    (hP : Post d X wr a wk V (.ret v c' s') e w1) : BS d R X w a me wk p L N o (K v) w1 c' s' := by
  obtain ⟨k1, -, k2⟩ := hP
  refine ⟨?_, k2, h.sub, h.kp.trans (k1.mono fun b e => h.sub b (.inl e)), h.tk.cells (k1.block p (h.sub p (.inr rfl))), run_keeps hk h.len hr, fun hl => ?_⟩
  · have := h.rn
    rw [run_bind, hr] at this
    exact this
  · obtain ⟨e1, e2, e3⟩ := run_live hr hl
    rw [e3]
    exact h.fu e1
theorem BS.waits {β : Type} {t : Tr β} {K : β → Tr α} {V : β → Value} {U : α → Value} {zs' : List Int} {st' : Nat} {s' : Sig} {e : Ending} (h : BS d R X w a me wk p L N o (t.bind K) wr c s) (hr : run t c s = .wait zs' st' s')
    (hP : Post d X wr a wk V (.wait zs' st' s') e w1) : e = .panicked waitE ∧ Post d R w a wk U o e w1 := by
  have := h.rn
  rw [run_bind, hr] at this
  subst this
  obtain ⟨k1, k2, k3⟩ := hP
  exact ⟨k2, h.kp.trans (k1.mono fun b e => h.sub b (.inl e)), k2, k3.mono fun b e => h.sub b (.inl e)⟩
theorem BS.end_ {v : α} {U : α → Value} (h : BS d R X w a me wk p L N o (.ret v) wr c s) : Post d R w a wk U o (.returned (U v)) wr := by
  rw [h.rn]
  exact ⟨h.kp, rfl, h.lv.mono fun b e => h.sub b (.inl e)⟩
/-- The outcome of a call, for what comes behind it. -/
def Then (d : Wd) (R X : Nat → Prop) (w : World) (a me : Nat) (wk : Value) (p L N : Nat) (U : α → Value) (o : Out α) {β : Type} (V : β → Value) (K : β → Tr α) (Q : β → Prop) (wr : World) (e : Ending) (w1 : World) : Prop :=
  (∃ v c' s', e = .returned (V v) ∧ Q v ∧ BS d R X w a me wk p L N o (K v) w1 c' s' ∧ Kp X wr w1) ∨ (e = .panicked waitE ∧ Post d R w a wk U o e w1)
theorem BS.call {β : Type} {t : Tr β} {K : β → Tr α} {V : β → Value} {U : α → Value} {e : Ending} {Q : β → Prop} (h : BS d R X w a me wk p L N o (t.bind K) wr c s) (hk : t.keeps (lenP L)) (hQ : ∀ v c' s', run t c s = .ret v c' s' → Q v) (hP : Post d X wr a wk V (run t c s) e w1) : Then d R X w a me wk p L N U o V K Q wr e w1 := by
  cases hr : run t c s with
  | wait zs st s' => rw [hr] at hP; exact .inr (h.waits hr hP)
  | ret v c' s' => rw [hr] at hP; exact .inl ⟨v, c', s', hP.2.1, hQ v c' s' hr, h.next hr hk hP, hP.1⟩
end
end Go.Proofs.YtcegianjpifnbaaGreat
namespace Go.Proofs.YtcegianjpifnbaaGreat
open Go.ChangeShapes Go.WideShapes Go.ChangeAt Go.RowKit
set_option linter.unusedVariables false
set_option linter.unusedSimpArgs false
set_option maxRecDepth 20000

section
variable {d : Wd} {R R' : Nat → Prop} {w w' w0 : World} {a st ph k me : Nat} {wk : Value} {zs : List Int} {c : Cur} {s : Sig} {V : Int → Value} {f : Nat} {cap : Array Value} {g : Sig → Int × Sig} {n : Int}
theorem htouch1_walk {Bx : Nat} (hen : ∀ W : World, (callFunc f cap).run Tryz.prog W = .ok (.enter f cap) W) (hc : w.cell? ⟨Bx, 0, none⟩ = some (.func (.func f) #[] cap)) {S : World → Prop}
    (ht : Calls Tryz.prog f cap w fun e w2 => e = .returned (.tuple #[]) ∧ S w2) :
    Calls Tryz.prog 168 #[ptr Bx] w fun e w2 => e = .returned (.int .i64 0) ∧ S w2 := by
  go_enter Tryz.func168, Tryz.ntmps168
  go_wp2_with fail
  refine ht.mono ?_
  clear ht
  rintro e w2 ⟨rfl, hS⟩
  have HS := Lib.hid hS
  clear hS hc hen
  go_wp2
  go_ret
  exact ⟨rfl, HS.out⟩
theorem htouch (hen : ∀ W : World, (callFunc f cap).run Tryz.prog W = .ok (.enter f cap) W) (h : Lv d R w a wk c s) (hg : c.live = true → (g s).1 = 0) (ht : c.live = true → TouV noV d s R w f cap g) :
    Calls Tryz.prog 157 #[tkV a d.W me, .func (.func f) #[] cap] w (Post d R w a wk uV (run (.tch g fun _ => .ret ()) c s)) := by
  have e3 := mk_fn
  have hrb : run (.tch g fun _ => .ret ()) c s = (run (tDo g) c s).bind fun z c s => .ret () c s := run_bind (tDo g) (fun z => .ret ()) c s
  rw [hrb]
  clear hrb
  obtain ⟨W, p, q, hW, hp, hq, bb, tk, cc, hsz⟩ := two_boxes w a d.W me (.func (.func f) #[] cap) 1
  have h1 : Lv d (fun b => R b ∨ b = q) W a wk c s := h.more bb (fun b e => e.imp id fun e => by omega)
  have hdo := do_touch (f := 168) (cap := #[ptr q]) (g := g) (fun W => rfl) h1 (fun hl => by rw [hg hl]; unfold in64; omega) (by
    intro hl w1 FW hWS hR hsz
    have hc1 := cell_same (hR _ (.inr rfl)).1 cc
    have hx := ht hl w1 FW hWS (fun b e => ⟨(hR b (.inl e)).1.trans (bb.block b (h.lt b e)), (hR b (.inl e)).2⟩) (Nat.le_trans bb.size hsz)
    rw [hg hl]
    exact htouch1_walk hen hc1 hx)
  have HK := Lib.hid (Kp.new h bb)
  have t0 := tk.c0
  have HD := Lib.hid hdo
  clear h ht bb cc hen h1 hg hsz tk hdo
  generalize run (tDo g) c s = o at HD ⊢
  go_enter Tryz.func157, Tryz.ntmps157
  go_wp2_with fail
  refine HD.out.mono ?_
  clear HD
  rintro e w1 hP
  cases o with
  | wait zs st s' =>
    obtain ⟨k1, rfl, k2⟩ := hP
    exact ⟨rfl, HK.out.trans (k1.mono fun b e => .inl e), rfl, k2.mono fun b e => .inl e⟩
  | ret z c' s' =>
    obtain ⟨k1, rfl, k2⟩ := hP
    have HE : Hid (Post d R w a wk uV (.ret () c' s') (.returned (.tuple #[])) w1) := ⟨HK.out.trans (k1.mono fun b e => .inl e), rfl, k2.mono fun b e => .inl e⟩
    clear k1 k2 t0
    go_wp2
    ((try simp only [Exit.inBlock, Exit.then]); refine bodyPost_end (results_none rfl _ _ _) rfl ?_)
    exact HE.out
/-- Three boxes, four boxes. -/
theorem three_boxes (w : World) (a W me : Nat) (v1 v2 : Value) (t1 t2 : TypeId) : ∃ (X : World) (p q r : Nat), ((w.alloc (.cells #[ptr a, ptr W, .int .i64 (me : Int)] tkT)).alloc (.cells #[v1] t1)).alloc (.cells #[v2] t2) = X ∧ w.heap.size = p ∧ p + 1 = q ∧ q + 1 = r ∧ Below w.heap.size w X ∧ Tk X p a W me ∧ X.cell? ⟨q, 0, none⟩ = some v1 ∧ X.cell? ⟨r, 0, none⟩ = some v2 ∧ X.heap.size = r + 1 :=
  ⟨_, _, _, _, rfl, rfl, rfl, rfl, (((Below.refl _ w).alloc (Nat.le_refl _) _).alloc (by simp) _).alloc (by simp; omega) _, ⟨c_old (c_old (Tk.new w a W me).c0), c_old (c_old (Tk.new w a W me).c1), c_old (c_old (Tk.new w a W me).c2)⟩, c_old (c_new (by simp) rfl), c_new (by simp) rfl, by simp⟩
theorem four_boxes (w : World) (a W me : Nat) (v1 v2 v3 : Value) (t1 t2 t3 : TypeId) : ∃ (X : World) (p q r u : Nat), (((w.alloc (.cells #[ptr a, ptr W, .int .i64 (me : Int)] tkT)).alloc (.cells #[v1] t1)).alloc (.cells #[v2] t2)).alloc (.cells #[v3] t3) = X ∧ w.heap.size = p ∧ p + 1 = q ∧ q + 1 = r ∧ r + 1 = u ∧ Below w.heap.size w X ∧ Tk X p a W me ∧ X.cell? ⟨q, 0, none⟩ = some v1 ∧ X.cell? ⟨r, 0, none⟩ = some v2 ∧ X.cell? ⟨u, 0, none⟩ = some v3 ∧ X.heap.size = u + 1 :=
  ⟨_, _, _, _, _, rfl, rfl, rfl, rfl, rfl, ((((Below.refl _ w).alloc (Nat.le_refl _) _).alloc (by simp) _).alloc (by simp; omega) _).alloc (by simp; omega) _, ⟨c_old (c_old (c_old (Tk.new w a W me).c0)), c_old (c_old (c_old (Tk.new w a W me).c1)), c_old (c_old (c_old (Tk.new w a W me).c2))⟩, c_old (c_old (c_new (by simp) rfl)), c_old (c_new (by simp) rfl), c_new (by simp) rfl, by simp⟩
theorem set_touch {t : Int} (h : Lv d R w a wk c s) :
    Calls Tryz.prog 156 #[tkV a d.W me, .int .i64 n, .int .u8 t] w (Post d R w a wk uV (run (tSet n t) c s)) := by
  have e3 := mk_fn
  obtain ⟨W, p, q, r, hW, hp, hq, hr, bb, tk, v1, v2, hsz⟩ := three_boxes w a d.W me (.int .i64 n) (.int .u8 t) 2 181
  have h1 : Lv d (fun b => R b ∨ b = p ∨ b = q ∨ b = r) W a wk c s := h.more bb (fun b e => e.imp id fun e => by omega)
  have HD := Lib.hid (htouch (me := me) (f := 166) (cap := #[ptr p, ptr q, ptr r]) (g := gSet n t) (fun W => rfl) h1 (fun _ => rfl) (by
    intro hl w1 FW hWS hR hsz
    exact set1_walk hWS (h.fit hl) (tk.cells (hR _ (.inr (.inl rfl))).1) (cell_same (hR _ (.inr (.inr (.inl rfl)))).1 v1) (cell_same (hR _ (.inr (.inr (.inr rfl)))).1 v2)))
  have HK := Lib.hid (Kp.new h bb)
  obtain ⟨t0, t1, t2⟩ := tk
  unfold tSet
  clear h bb v1 v2 h1 hsz
  generalize run (.tch (gSet n t) fun _ => .ret ()) c s = o at HD ⊢
  go_enter Tryz.func156, Tryz.ntmps156
  go_wp2_with fail
  refine HD.out.mono ?_
  clear HD
  rintro e w1 hP
  have hP2 := Post.from_ HK.out (hP.mono fun b e => .inl e)
  cases o with
  | wait zs st s' =>
    obtain ⟨k1, rfl, k2⟩ := hP2
    exact ⟨rfl, k1, rfl, k2⟩
  | ret z c' s' =>
    obtain ⟨k1, rfl, k2⟩ := hP
    have HE := Lib.hid hP2
    clear k1 k2 hP2 t0 t1 t2
    go_wp2
    ((try simp only [Exit.inBlock, Exit.then]); refine bodyPost_end (results_none rfl _ _ _) rfl ?_)
    exact HE.out
theorem swapInfo_01 (r o n : Int) (s : Sig) : (gSwapInfo r o n s).1 = 0 ∨ (gSwapInfo r o n s).1 = 1 := by
  simp only [gSwapInfo, gAr, As.with]
  split
  · split <;> simp
  · simp
theorem swapWay_01 (r k o n : Int) (s : Sig) : (gSwapWay r k o n s).1 = 0 ∨ (gSwapWay r k o n s).1 = 1 := by
  simp only [gSwapWay, gAr, As.with]
  split
  · split <;> simp
  · simp
theorem all_01 (n : Int) (s : Sig) : (gAll n s).1 = 0 ∨ (gAll n s).1 = 1 := by
  simp only [gAll]
  split
  · rename_i x _; cases x.all <;> simp [b2i]
  · simp
theorem info_in (hf : Fit s) (r : Int) : in64 (gInfo r s).1 := by
  simp only [gInfo, gAr, As.with]
  split
  · rename_i i p hh
    exact hf.rc.2 p (List.mem_of_getElem? (hit_some hh).1)
  · unfold in64; omega
set_option maxHeartbeats 1000000 in
theorem take_touch {r o : Int} (h : Lv d R w a wk c s) :
    Calls Tryz.prog 140 #[tkV a d.W me, .int .i64 r, .int .i64 o, .int .i64 n] w (Post d R w a wk bV (run (tTake r o n) c s)) := by
  have e3 := mk_fn
  obtain ⟨W, p, q1, q2, q3, hW, hp, hq1, hq2, hq3, bb, tk, v1, v2, v3, hsz⟩ := four_boxes w a d.W me (.int .i64 r) (.int .i64 o) (.int .i64 n) 53 2 2
  obtain ⟨u, hu⟩ : ∃ u, run (tTake r o n) c s = u := ⟨_, rfl⟩
  rw [hu]
  have HB : Hid (BS d R (fun b => R b ∨ p ≤ b ∧ b ≤ q3) w a me wk p s.S.length (c.zs.length + 2) u (tTake r o n) W c s) := ⟨hu.symm, h.more bb (fun b e => e.imp id fun e => by omega), fun b e => e.imp id fun e => by omega, Kp.new h bb, tk, rfl, fun _ => Nat.le_refl _⟩
  have HX : Hid (p ≤ q1 ∧ q1 ≤ q3 ∧ p ≤ q2 ∧ q2 ≤ q3 ∧ p ≤ q3) := ⟨by omega, by omega, by omega, by omega, by omega⟩
  generalize s.S.length = L at HB
  generalize c.zs.length + 2 = N at HB
  have HD := Lib.hid (ask_touch (f := 151) (cap := #[ptr p, ptr q1, ptr q2, ptr q3]) (g := gSwapInfo r o n) (fun W => rfl) HB.out.lv (fun _ => swapInfo_01 r o n s) (by
    intro hl w1 FW hWS hR hsz
    obtain ⟨x1, x2, x3, x4, x5⟩ := HX.out
    exact take1_walk hWS (h.fit hl) (tk.cells (hR _ (.inr ⟨by omega, by omega⟩)).1) (cell_same (hR _ (.inr ⟨by omega, by omega⟩)).1 v1) (cell_same (hR _ (.inr ⟨by omega, by omega⟩)).1 v2) (cell_same (hR _ (.inr ⟨by omega, by omega⟩)).1 v3)))
  have HV1 := Lib.hid v1
  have HV3 := Lib.hid v3
  obtain ⟨t0, t1, t2⟩ := tk
  clear h bb hu hsz v1 v2 v3
  go_enter Tryz.func140, Tryz.ntmps140
  go_wp2_with fail
  clear hW hp hq1 hq2 hq3
  refine HD.out.mono ?_
  clear HD t0 t1 t2
  intro e w1 hP
  have hT := BS.call (t := .tch (gSwapInfo r o n) fun y => .ret (y != 0)) (K := fun b => if b = true then .ret true else .tch (gInfo r) fun y => .ret (y == n)) (U := bV) (Q := fun _ => True) HB.out ⟨fun s e => (by unfold lenP at e ⊢; exact e), fun _ => trivial⟩ (fun _ _ _ _ => trivial) hP
  clear hP
  obtain ⟨v, c2, s2, rfl, -, hB, hKp⟩ | ⟨rfl, hP⟩ := hT
  case inr => exact ⟨rfl, hP⟩
  have hv1 := hKp.read (.inr ⟨HX.out.1, HX.out.2.1⟩) HV1.out
  have hv3 := hKp.read (.inr ⟨HX.out.2.2.2.2, Nat.le_refl _⟩) HV3.out
  clear HB hKp HV1 HV3
  cases v with
  | true =>
    have HE := Lib.hid (BS.end_ (U := bV) hB)
    clear hB hv1 hv3
    go_wp2
    go_ret
    exact HE.out
  | false =>
    have HB : Hid (BS d R (fun b => R b ∨ p ≤ b ∧ b ≤ q3) w a me wk p L N u (.tch (gInfo r) fun y => .ret (y == n)) w1 c2 s2) := hB
    have HV1 := Lib.hid hv1
    have HV3 := Lib.hid hv3
    clear hB hv1 hv3
    go_wp2_with fail
    refine region_T (fun _ => false) (fun w' => w'.cell? ⟨p, 0, none⟩ = some (ptr a) ∧ w'.cell? ⟨q3, 0, none⟩ = some (.int .i64 n)) (by kernel_rfl) ?_
    obtain ⟨X0, hX0, hbX0⟩ : ∃ X0 : World, w1.drew = X0 ∧ Below w1.heap.size w1 X0 := ⟨_, rfl, (Below.refl _ w1).drew⟩
    have HB1 := Lib.hid (HB.out.below hbX0)
    have hC : X0.cell? ⟨p, 0, none⟩ = some (ptr a) ∧ X0.cell? ⟨q3, 0, none⟩ = some (.int .i64 n) := ⟨HB1.out.tk.c0, below_read hbX0 HV3.out⟩
    have HV1' := Lib.hid (below_read hbX0 HV1.out)
    rw [hX0]
    clear hX0 HB HV1 HV3 hbX0
    refine takeW (i := 0) (v := ?_) rfl (by kernel_rfl) (by kernel_rfl) (by kernel_rfl) (by kernel_rfl) (by kernel_rfl) (fun _ _ _ h => h) hC (by rfl) ?_ ?_
    rotate_left
    · intro w hSw; (try dsimp only at hSw); go_simp; try (with_reducible rfl)
    try simp only [Act.put, List.setIfInBounds_toArray, List.set_cons_zero, List.set_cons_succ]
    refine takeW (i := 1) (v := ?_) rfl (by kernel_rfl) (by kernel_rfl) (by kernel_rfl) (by kernel_rfl) (by kernel_rfl) (fun _ _ _ h => h) hC (by rfl) ?_ ?_
    rotate_left
    · intro w hSw; (try dsimp only at hSw); go_simp; try (with_reducible rfl)
    try simp only [Act.put, List.setIfInBounds_toArray, List.set_cons_zero, List.set_cons_succ]
    refine takeW (i := 2) (v := ?_) rfl (by kernel_rfl) (by kernel_rfl) (by kernel_rfl) (by kernel_rfl) (by kernel_rfl) (fun _ _ _ h => h) hC (by rfl) ?_ ?_
    rotate_left
    · intro w hSw; (try dsimp only at hSw); go_simp; try (with_reducible rfl)
    try simp only [Act.put, List.setIfInBounds_toArray, List.set_cons_zero, List.set_cons_succ]
    refine takeW (i := 4) (v := ?_) rfl (by kernel_rfl) (by kernel_rfl) (by kernel_rfl) (by kernel_rfl) (by kernel_rfl) (fun _ _ _ h => h) hC (by rfl) ?_ ?_
    rotate_left
    · intro w hSw; (try dsimp only at hSw); go_simp; try (with_reducible rfl)
    try simp only [Act.put, List.setIfInBounds_toArray, List.set_cons_zero, List.set_cons_succ]
    refine oneT (i := 3) (by kernel_rfl) rfl (by rfl) (fun K hK => ?_)
    go_simp
    refine (do_touch (f := 153) (cap := #[ptr p, ptr q1]) (g := gInfo r) (fun W => rfl) HB1.out.lv (fun hl => info_in (HB1.out.lv.fit hl) r) (by
      intro hl w1 FW hWS hR hsz
      obtain ⟨x1, x2, x3, x4, x5⟩ := HX.out
      exact take2_walk hWS (HB1.out.lv.fit hl) (HB1.out.tk.cells (hR _ (.inr ⟨by omega, by omega⟩)).1) (cell_same (hR _ (.inr ⟨by omega, by omega⟩)).1 HV1'.out))).mono ?_
    intro e w2 hP
    have hT := BS.call (t := tDo (gInfo r)) (K := fun y => .ret (y == n)) (U := bV) (Q := fun _ => True) HB1.out ⟨fun s e => (by unfold lenP at e ⊢; exact e), fun _ => trivial⟩ (fun _ _ _ _ => trivial) hP
    clear hP
    obtain ⟨v, c3, s3, rfl, -, hB, hKp⟩ | ⟨rfl, hP⟩ := hT
    case inr => exact ⟨rfl, hP⟩
    have hC2 : w2.cell? ⟨p, 0, none⟩ = some (ptr a) ∧ w2.cell? ⟨q3, 0, none⟩ = some (.int .i64 n) := ⟨hB.tk.c0, hKp.read (.inr ⟨HX.out.2.2.2.2, Nat.le_refl _⟩) hC.2⟩
    refine hK.out _ _ (fun _ => hC2) ?_
    have HE := Lib.hid (BS.end_ (U := bV) hB)
    clear hK K hC hB hKp HB1 HV1'
    have hC := hC2
    clear hC2
    try simp only [Act.put, List.setIfInBounds_toArray, List.set_cons_zero, List.set_cons_succ]
    refine oneT (i := 5) (by kernel_rfl) rfl (by rfl) (fun K hK => ?_)
    go_simp
    refine hK.out _ _ (fun _ => hC) ?_
    clear hK K
    try simp only [Act.put, List.setIfInBounds_toArray, List.set_cons_zero, List.set_cons_succ]
    refine oneT (i := 6) (by kernel_rfl) rfl (by rfl) (fun K hK => ?_)
    go_simp
    refine hK.out _ _ (fun _ => hC) ?_
    clear hK K
    try simp only [Act.put, List.setIfInBounds_toArray, List.set_cons_zero, List.set_cons_succ]
    refine doneT (by kernel_rfl) ?_
    clear hC
    go_wp2
    go_ret
    exact HE.out
set_option maxHeartbeats 1000000 in
theorem settle_touch (h : Lv d R w a wk c s) :
    Calls Tryz.prog 141 #[tkV a d.W me, .int .i64 n] w (Post d R w a wk bV (run (tSettle n) c s)) := by
  have e3 := mk_fn
  obtain ⟨W, p, q, hW, hp, hq, bb, tk, v1, hsz⟩ := two_boxes w a d.W me (.int .i64 n) 2
  obtain ⟨u, hu⟩ : ∃ u, run (tSettle n) c s = u := ⟨_, rfl⟩
  rw [hu]
  have HB : Hid (BS d R (fun b => R b ∨ b = p ∨ b = q) w a me wk p s.S.length (c.zs.length + 2) u (tSettle n) W c s) := ⟨hu.symm, h.more bb (fun b e => e.imp id fun e => by omega), fun b e => e.imp id fun e => .inl e, Kp.new h bb, tk, rfl, fun _ => Nat.le_refl _⟩
  generalize s.S.length = L at HB
  generalize c.zs.length + 2 = N at HB
  have HD := Lib.hid (ask_touch (f := 154) (cap := #[ptr p, ptr q]) (g := gAll n) (fun W => rfl) HB.out.lv (fun _ => all_01 n s) (by
    intro hl w1 FW hWS hR hsz
    exact settle1_walk hWS (h.fit hl) (tk.cells (hR _ (.inr (.inl rfl))).1) (cell_same (hR _ (.inr (.inr rfl))).1 v1)))
  have HV1 := Lib.hid v1
  obtain ⟨t0, t1, t2⟩ := tk
  clear h bb hu hsz v1
  go_enter Tryz.func141, Tryz.ntmps141
  go_wp2_with fail
  clear hW hp hq
  refine HD.out.mono ?_
  clear HD t0 t1 t2
  intro e w1 hP
  have hT := BS.call (t := .tch (gAll n) fun y => .ret (y != 0)) (K := fun b => if b = true then .ret true else (tSet n 0).bind fun _ => .ret false) (U := bV) (Q := fun _ => True) HB.out ⟨fun s e => (by unfold lenP at e ⊢; exact e), fun _ => trivial⟩ (fun _ _ _ _ => trivial) hP
  clear hP
  obtain ⟨v, c2, s2, rfl, -, hB, hKp⟩ | ⟨rfl, hP⟩ := hT
  case inr => exact ⟨rfl, hP⟩
  have hv1 := hKp.read (.inr (.inr rfl)) HV1.out
  clear HB hKp HV1
  cases v with
  | true =>
    have HE := Lib.hid (BS.end_ (U := bV) hB)
    clear hB hv1
    go_wp2
    go_ret
    exact HE.out
  | false =>
    have HB : Hid (BS d R (fun b => R b ∨ b = p ∨ b = q) w a me wk p L N u ((tSet n 0).bind fun _ => .ret false) w1 c2 s2) := hB
    have HD := Lib.hid (set_touch (me := me) (n := n) (t := 0) HB.out.lv)
    obtain ⟨t0, t1, t2⟩ := HB.out.tk
    clear hB
    go_wp2_with fail
    refine HD.out.mono ?_
    clear HD t0 t1 t2 hv1
    intro e w2 hP
    have hT := BS.call (t := tSet n 0) (K := fun _ => .ret false) (U := bV) (Q := fun _ => True) HB.out ⟨fun s e => (by unfold lenP at e ⊢; exact e), fun _ => trivial⟩ (fun _ _ _ _ => trivial) hP
    clear hP
    obtain ⟨v, c3, s3, rfl, -, hB, hKp⟩ | ⟨rfl, hP⟩ := hT
    case inr => exact ⟨rfl, hP⟩
    have HE := Lib.hid (BS.end_ (U := bV) hB)
    clear hB hKp HB
    go_wp2
    go_ret
    exact HE.out
end
end Go.Proofs.YtcegianjpifnbaaGreat
namespace Go.Proofs.YtcegianjpifnbaaGreat
open Go.ChangeShapes Go.WideShapes Go.ChangeAt Go.RowKit
set_option linter.unusedVariables false
set_option linter.unusedSimpArgs false
set_option maxRecDepth 20000

section
variable {d : Wd} {R R' : Nat → Prop} {w w' w0 : World} {a st ph k me : Nat} {wk : Value} {zs : List Int} {c : Cur} {s : Sig} {n : Int} {α : Type}
variable {X : Nat → Prop} {p L N : Nat} {o : Out α} {wr w1 : World}
/-- A variable that was made, with a number in it. -/
theorem put_new (w : World) (z : Int) (t : TypeId) : Below w.heap.size w (w.alloc (.cells #[.int .i64 z] t)) ∧ (w.alloc (.cells #[.int .i64 z] t)).heap[w.heap.size]? = some (.cells #[.int .i64 z] t (0, 0)) ∧ (w.alloc (.cells #[.int .i64 z] t)).heap.size = w.heap.size + 1 := ⟨below_new w _, heap_alloc_new w _, by simp⟩
theorem num_cell {w : World} {q : Nat} {z : Int} {t : TypeId} (h : w.heap[q]? = some (.cells #[.int .i64 z] t (0, 0))) : w.cell? ⟨q, 0, none⟩ = some (.int .i64 z) := by rw [cell_of_row w q _ _ _ (0, 0) h]; rfl
/-- What comes behind Begin's first touch. -/
def kSay (N L me : Nat) (now : Int) : Tr Unit := .tch (gSay me now) fun _ => (tAll now L 0).bind fun b => (tSwap b now).bind fun _ => .tch gNow fun n => tFree me n N
def kNow (N me : Nat) : Tr Unit := .tch gNow fun n => tFree me n N
def kAll (N me : Nat) (now : Int) (b : Bool) : Tr Unit := (tSwap b now).bind fun _ => kNow N me
structure BV (d : Wd) (R : Nat → Prop) (w : World) (a me : Nat) (wk : Value) (p q L N : Nat) (o : Out Unit) (t : Tr Unit) (z : Int) (wr : World) (c : Cur) (s : Sig) : Prop where
  bs : BS d R (fun b => R b ∨ b = p ∨ b = q) w a me wk p L N o t wr c s
  var : wr.heap[q]? = some (.cells #[.int .i64 z] 2 (0, 0))
  ne : q ≠ p
  nR : ¬ R q
theorem BV.then {q : Nat} {o : Out Unit} {t t' : Tr Unit} {z : Int} {c' : Cur} {s' : Sig} (h : BV d R w a me wk p q L N o t z wr c s) (hB : BS d R (fun b => R b ∨ b = p ∨ b = q) w a me wk p L N o t' w1 c' s') (hK : Kp (fun b => R b ∨ b = p ∨ b = q) wr w1) : BV d R w a me wk p q L N o t' z w1 c' s' :=
  ⟨hB, (hK.block q (.inr (.inr rfl))).trans h.var, h.ne, h.nR⟩
theorem BS.last {t : Tr α} {U : α → Value} {e : Ending} (h : BS d R X w a me wk p L N o t wr c s) (hP : Post d X wr a wk U (run t c s) e w1) : Post d R w a wk U o e w1 := by
  rw [h.rn]; exact Post.from_ h.kp (hP.mono fun b e => h.sub b (.inl e))
theorem BV.cells {q : Nat} {o : Out Unit} {t : Tr Unit} {z : Int} (h : BV d R w a me wk p q L N o t z wr c s) : wr.cell? ⟨p, 0, none⟩ = some (ptr a) ∧ wr.cell? ⟨p, 1, none⟩ = some (ptr d.W) ∧ wr.cell? ⟨p, 2, none⟩ = some (.int .i64 (me : Int)) ∧ wr.cell? ⟨q, 0, none⟩ = some (.int .i64 z) ∧ wr.cell? ⟨d.W, 2, none⟩ = some (ptr d.E) :=
  ⟨h.bs.tk.c0, h.bs.tk.c1, h.bs.tk.c2, num_cell h.var, h.bs.wcell.1⟩
theorem gSwap_01 (n : Int) (s : Sig) : (gSwap n s).1 = 0 ∨ (gSwap n s).1 = 1 := by unfold gSwap; split <;> simp
theorem gSwap_len (n : Int) (s : Sig) : (gSwap n s).2.S = s.S := by unfold gSwap; split <;> rfl
end
end Go.Proofs.YtcegianjpifnbaaGreat
namespace Go.Proofs.YtcegianjpifnbaaGreat
open Go.ChangeShapes Go.WideShapes Go.ChangeAt Go.RowKit
set_option linter.unusedVariables false
set_option linter.unusedSimpArgs false
set_option maxRecDepth 20000

section
variable {α β : Type} {L : Nat}
theorem keeps_len {g : Sig → Int × Sig} {K : Int → Tr α} (hg : ∀ s, (g s).2.S = s.S) (hK : ∀ z, (K z).keeps (lenP L)) : (Tr.tch g K).keeps (lenP L) := ⟨fun s e => (by unfold lenP at e ⊢; rw [hg]; exact e), hK⟩
theorem keeps_ite {b : Bool} {t u : Tr α} (ht : t.keeps (lenP L)) (hu : u.keeps (lenP L)) : (if b = true then t else u).keeps (lenP L) := by cases b <;> assumption
theorem take_keeps (r o n : Int) : (tTake r o n).keeps (lenP L) := keeps_len (fun s => rfl) fun z => keeps_ite trivial (keeps_len (fun s => rfl) fun _ => trivial)
theorem tSet_keeps (n t : Int) : (tSet n t).keeps (lenP L) := keeps_len (fun s => rfl) fun z => trivial
theorem settle_keeps (n : Int) : (tSettle n).keeps (lenP L) := keeps_len (fun s => rfl) fun z => keeps_ite trivial (keeps_bind (tSet_keeps n 0) fun _ => trivial)
theorem marks_keeps {F : Tr Unit} (hF : F.keeps (lenP L)) (l : List Int) : (tMarks F l).keeps (lenP L) := by
  induction l with
  | nil => exact hF
  | cons r l ih => exact keeps_len (fun s => rfl) fun _ => ih
theorem way_keeps (r : Rc) {F : Tr Unit} (hF : F.keeps (lenP L)) : (tWay r F).keeps (lenP L) := by
  unfold tWay
  split
  · exact hF
  · exact keeps_len (fun s => rfl) fun _ => hF
theorem finish_keeps (r : Rc) (n : Int) : (tFinish r n).keeps (lenP L) := keeps_len (fun s => rfl) fun _ => marks_keeps (way_keeps r (tSet_keeps n 2)) _
end
section
variable {d : Wd} {R R' : Nat → Prop} {w w' w0 : World} {a st ph k me : Nat} {wk : Value} {zs : List Int} {c : Cur} {s : Sig} {n : Int}
/-- A slice that stays. -/
theorem Sl.kp {A : Option Addr} {m q : Nat} {rs : List Int} (h : Sl w A m q rs) (hA : ∀ ad, A = some ad → R ad.block) (hk : Kp R w w') : Sl w' A m q rs := h.keepAt fun ad e _ => hk.block _ (hA ad e)
/-- 's[k:]': its address under one name, in the same block. -/
theorem cut_from2 {sl el : TypeId} (RT : RowT sl el) {A : Option Addr} {n c : Nat} {zs : List Int} (h : Sl w A n c zs) (k : Nat) (hk : k ≤ n) :
    ∃ A' : Option Addr, Sl w A' (n - k) (c - k) (zs.drop k) ∧ (∀ ad, A' = some ad → ∃ ad0, A = some ad0 ∧ ad0.block = ad.block) ∧ ∀ W : World, (Instr.slice sl (.slice A n c) (some (.int .i64 (k : Int))) none none).run Tryz.prog W = .ok (.slice A' (n - k) (c - k)) W := by
  refine ⟨_, h.from_ hk, ?_, fun W => ?_⟩
  · intro ad e
    split at e
    · exact ⟨ad, e, rfl⟩
    · cases A with
      | none => cases e
      | some ad0 => injection e with e; exact ⟨ad0, rfl, by rw [← e]; show _ = (ad0.add k).block; unfold Addr.add; (try split) <;> rfl⟩
  · rw [run_slice_l (P := Tryz.prog) (t := sl) _ _ _ _ RT.under2 .i64 (k : Int) (by omega) (by omega), RT.elem W]
    simp [Result.andThen, sliced]
theorem boxes_R (w : World) (a W me : Nat) (u v : Value) (k y o n z : Int) : ∃ (X : World) (p q r : Nat), ((w.alloc (.cells #[ptr a, ptr W, .int .i64 (me : Int)] tkT)).alloc (.cells #[u, v, .int .i64 k, .int .i64 y, .int .i64 o, .int .i64 n] 186)).alloc (.cells #[.int .i64 z] 2) = X ∧ w.heap.size = p ∧ p + 1 = q ∧ q + 1 = r ∧ Below w.heap.size w X ∧ Tk X p a W me ∧ Six X q u v k y o n ∧ X.cell? ⟨r, 0, none⟩ = some (.int .i64 z) ∧ X.heap.size = r + 1 :=
  ⟨_, _, _, _, rfl, rfl, rfl, rfl, (((Below.refl _ w).alloc (Nat.le_refl _) _).alloc (by simp) _).alloc (by simp; omega) _, ⟨c_old (c_old (Tk.new w a W me).c0), c_old (c_old (Tk.new w a W me).c1), c_old (c_old (Tk.new w a W me).c2)⟩, (Six.new _ (by simp) u v k y o n).below (below_new _ _), c_new (by simp) rfl, by simp⟩
theorem Six.kp {X : Nat → Prop} {b : Nat} {u v : Value} {k y o n : Int} (h : Six w b u v k y o n) (hk : Kp X w w') (hb : X b) : Six w' b u v k y o n := (hk.block b hb).trans h
set_option maxHeartbeats 4000000 in
theorem finish_touch {A B : Option Addr} {m c0 m' c1 : Nat} {ns is : List Int} {kp wy od nw : Int} (h : Lv d R w a wk c s) (hs : Sl w A m c0 ns) (hA : ∀ ad, A = some ad → R ad.block) (hm : m ≤ 1000) (hk : 0 ≤ kp) :
    Calls Tryz.prog 142 #[tkV a d.W me, rcv (.slice A m c0) (.slice B m' c1) ⟨ns, is, kp, wy, od, nw⟩, .int .i64 n] w (Post d R w a wk uV (run (tFinish ⟨ns, is, kp, wy, od, nw⟩ n) c s)) := by
  have e3 := mk_fn
  obtain ⟨W, p, q, q2, hW, hp, hq, hq2, bb, tk, v1, v2, hsz⟩ := boxes_R w a d.W me (.slice A m c0) (.slice B m' c1) kp wy od nw n
  obtain ⟨u, hu⟩ : ∃ u, run (tFinish ⟨ns, is, kp, wy, od, nw⟩ n) c s = u := ⟨_, rfl⟩
  rw [hu]
  obtain ⟨kk, hkk⟩ : ∃ kk, min kp.toNat ns.length = kk := ⟨_, rfl⟩
  have hml := hs.len
  have hmin : min kp (m : Int) = (kk : Int) := by rw [← hkk]; omega
  have hkm : kk ≤ m := by rw [← hkk]; omega
  obtain ⟨F, hF⟩ : ∃ F, tWay ⟨ns, is, kp, wy, od, nw⟩ (tSet n 2) = F := ⟨_, rfl⟩
  have HF := Lib.hid hF
  have HB : Hid (BS d R (fun b => R b ∨ p ≤ b ∧ b ≤ q2) w a me wk p s.S.length (c.zs.length + 2) u (.tch (gSetAll n) fun _ => tMarks F (ns.drop kk)) W c s) := ⟨by rw [← hu, ← hF, ← hkk]; rfl, h.more bb (fun b e => e.imp id fun e => by omega), fun b e => e.imp id fun e => by omega, Kp.new h bb, tk, rfl, fun _ => Nat.le_refl _⟩
  have HX : Hid (p ≤ q ∧ q ≤ q2) := ⟨by omega, by omega⟩
  have HFK : Hid (F.keeps (lenP s.S.length)) := by show F.keeps _; rw [← hF]; exact way_keeps _ (tSet_keeps n 2)
  generalize s.S.length = L at HB HFK
  generalize c.zs.length + 2 = N at HB
  have HSL := Lib.hid (hs.below bb)
  have HAD := Lib.hid hA
  obtain ⟨A2, s2, a2, hcut⟩ := cut_from2 rowR hs kk hkm
  have HS2 := Lib.hid (s2.below bb)
  have HA2 : Hid (∀ ad, A2 = some ad → R ad.block) := fun ad e => by obtain ⟨ad0, e1, e2⟩ := a2 ad e; rw [← e2]; exact hA ad0 e1
  have HML := Lib.hid hml
  obtain ⟨mk, hmk⟩ : ∃ mk, m - kk = mk := ⟨_, rfl⟩
  rw [hmk] at hcut HS2
  have hmk2 : mk ≤ 1000 := by omega
  have HMK : Hid ((ns.drop kk).length = mk) := by show _ = _; rw [List.length_drop]; omega
  have HC := Lib.hid hcut
  have HD := Lib.hid (htouch (me := me) (f := 158) (cap := #[ptr p, ptr q2]) (g := gSetAll n) (fun W => rfl) HB.out.lv (fun _ => rfl) (by
    intro hl w1 FW hWS hR hsz
    obtain ⟨x1, x2⟩ := HX.out
    exact fin1_walk hWS (h.fit hl) (tk.cells (hR _ (.inr ⟨by omega, by omega⟩)).1) (cell_same (hR _ (.inr ⟨by omega, by omega⟩)).1 v2)))
  have HV1 := Lib.hid v1
  have HV2 := Lib.hid v2
  obtain ⟨t0, t1, t2⟩ := tk
  clear h bb hu hsz v1 v2 hs hA hF s2 a2 hcut hkk hml
  go_enter Tryz.func142, Tryz.ntmps142
  go_wp2_with fail
  clear hW hp hq hq2
  refine HD.out.mono ?_
  clear HD t0 t1 t2
  intro e w1 hP
  have hT := BS.call (t := .tch (gSetAll n) fun _ => .ret ()) (K := fun _ => tMarks F (ns.drop kk)) (U := uV) (Q := fun _ => True) HB.out (keeps_len (fun s => rfl) fun _ => trivial) (fun _ _ _ _ => trivial) hP
  clear hP
  obtain ⟨v, c2, s2, rfl, -, hB, hKp⟩ | ⟨rfl, hP⟩ := hT
  case inr => exact ⟨rfl, hP⟩
  have HB2 : Hid (BS d R (fun b => R b ∨ p ≤ b ∧ b ≤ q2) w a me wk p L N u (tMarks F ((ns.drop kk).drop 0)) w1 c2 s2) := hB
  have HK2 := Lib.hid hKp
  obtain ⟨x0, x1, x2, x3, x4, x5⟩ := (HV1.out.kp hKp (.inr HX.out)).cells
  have hrun := HC.out
  clear HB hB hKp
  go_wp2_with fail
  clear x0 x1 x2 x3 x4 x5 hrun hmin
  go_loopg [21] mk (fun gk i wr => ∃ (j : Nat) (c' : Cur) (s' : Sig), j + gk = mk ∧ i = .int .i64 (j : Int) ∧ Hid (BS d R (fun b => R b ∨ p ≤ b ∧ b ≤ q2) w a me wk p L N u (tMarks F ((ns.drop kk).drop j)) wr c' s') ∧ Hid (Kp (fun b => R b ∨ p ≤ b ∧ b ≤ q2) W wr))
  case atStart => exact ⟨0, c2, s2, by omega, rfl, HB2.out, HK2.out⟩
  case round =>
    clear HB2 HK2
    obtain ⟨j, c1, s1, hj, rfl, HH, HK⟩ := hrel
    by_cases hlt : j < mk
    case neg =>
      have i1 : ¬ ((j : Int) < (mk : Int)) := by omega
      have HB3 : Hid (BS d R (fun b => R b ∨ p ≤ b ∧ b ≤ q2) w a me wk p L N u (tWay ⟨ns, is, kp, wy, od, nw⟩ (tSet n 2)) wr c1 s1) := by
        have hB := HH.out
        rw [List.drop_eq_nil_of_le (by rw [HMK.out]; omega)] at hB
        rw [HF.out]
        exact hB
      have h6 := HV1.out.kp HK.out (.inr ⟨HX.out.1, HX.out.2⟩)
      have h2 := HK.out.read (p := ⟨q2, 0, none⟩) (.inr ⟨Nat.le_trans HX.out.1 HX.out.2, Nat.le_refl _⟩) HV2.out
      have HV1' := Lib.hid h6
      obtain ⟨x0, x1, x2, x3, x4, x5⟩ := h6.cells
      obtain ⟨t0, t1, t2⟩ := HB3.out.tk
      clear HH h6 HF HFK
      by_cases hm0 : m = 0
      · subst hm0
        have HB4 : Hid (BS d R (fun b => R b ∨ p ≤ b ∧ b ≤ q2) w a me wk p L N u (tSet n 2) wr c1 s1) := by
          have hB := HB3.out
          have hn : ns = [] := List.eq_nil_of_length_eq_zero HML.out.symm
          rw [hn] at hB
          exact hB
        clear HB3
        have HD := Lib.hid (set_touch (me := me) (n := n) (t := 2) HB4.out.lv)
        go_wp2_with fail
        refine HD.out.mono ?_
        clear HD t0 t1 t2 h2
        intro e w3 hP
        have hP2 := HB4.out.last hP
        cases hr : run (tSet n 2) c1 s1 with
        | wait zs st s' =>
          rw [hr] at hP
          obtain ⟨-, rfl, -⟩ := hP
          exact ⟨rfl, hP2⟩
        | ret z c' s' =>
          rw [hr] at hP
          obtain ⟨-, rfl, -⟩ := hP
          have HE := Lib.hid hP2
          clear hP2 hr x0 x1 x2 x3 x4 x5
          go_wp2
          ((try simp only [Exit.inBlock, Exit.then]); refine bodyPost_end (results_none rfl _ _ _) rfl ?_)
          exact HE.out
      · obtain ⟨n0, ns', hn⟩ : ∃ n0 ns', ns = n0 :: ns' := by
          cases ns with
          | nil => exact absurd HML.out.symm (by simpa using fun e => hm0 e.symm)
          | cons n0 ns' => exact ⟨n0, ns', rfl⟩
        have HB4 : Hid (BS d R (fun b => R b ∨ p ≤ b ∧ b ≤ q2) w a me wk p L N u (.tch (gSwapWay n0 wy od nw) fun _ => tSet n 2) wr c1 s1) := by
          have hB := HB3.out
          rw [hn] at hB
          exact hB
        have hSL := (HSL.out.kp (R := fun b => R b ∨ p ≤ b ∧ b ≤ q2) (fun ad e => .inl (HAD.out ad e)) HK.out).at_ (k := 0) (by rw [hn]; simp)
        obtain ⟨ba, off, hA0, hbl, hcx⟩ := hSL
        have hc : wr.cell? ⟨ba, off, none⟩ = some (.int .i64 n0) := by
          have e : ns[0]'(by rw [hn]; simp) = n0 := by simp [hn]
          rw [e] at hcx
          exact hcx
        clear hcx
        have hbR := HAD.out _ hA0
        subst hA0
        have m0 : (0 : Int) < (m : Int) := by omega
        have HCC := Lib.hid hc
        clear HB3 hn
        have HD := Lib.hid (ask_touch (f := 162) (cap := #[ptr p, ptr q]) (g := gSwapWay n0 wy od nw) (fun W => rfl) HB4.out.lv (fun _ => swapWay_01 n0 wy od nw s1) (by
          intro hl w1 FW hWS hR hsz
          exact fin3_walk hWS (HB4.out.lv.fit hl) (HB4.out.tk.cells (hR _ (.inr ⟨Nat.le_refl _, Nat.le_trans HX.out.1 HX.out.2⟩)).1) ((hR _ (.inr HX.out)).1.trans HV1'.out) (by omega) (cell_same (hR _ (.inl hbR)).1 HCC.out)))
        clear hc hbl
        go_wp2_with fail
        refine HD.out.mono ?_
        clear HD t0 t1 t2 x0 x1 x2 x3 x4 x5
        intro e w3 hP
        have hT := BS.call (t := .tch (gSwapWay n0 wy od nw) fun y => .ret (y != 0)) (K := fun _ => tSet n 2) (U := uV) (Q := fun _ => True) HB4.out (keeps_len (fun s => rfl) fun _ => trivial) (fun _ _ _ _ => trivial) hP
        clear hP
        obtain ⟨v, c3, s3, rfl, -, hB, hKp⟩ | ⟨rfl, hP⟩ := hT
        case inr => exact ⟨rfl, hP⟩
        have HB5 := Lib.hid hB
        have h2 := hKp.read (p := ⟨q2, 0, none⟩) (.inr ⟨Nat.le_trans HX.out.1 HX.out.2, Nat.le_refl _⟩) h2
        clear hB hKp HB4
        have HD := Lib.hid (set_touch (me := me) (n := n) (t := 2) HB5.out.lv)
        obtain ⟨t0, t1, t2⟩ := HB5.out.tk
        go_wp2_with fail
        refine HD.out.mono ?_
        clear HD t0 t1 t2 h2
        intro e w4 hP
        have hP2 := HB5.out.last hP
        cases hr : run (tSet n 2) c3 s3 with
        | wait zs st s' =>
          rw [hr] at hP
          obtain ⟨-, rfl, -⟩ := hP
          exact ⟨rfl, hP2⟩
        | ret z c' s' =>
          rw [hr] at hP
          obtain ⟨-, rfl, -⟩ := hP
          have HE := Lib.hid hP2
          clear hP2 hr
          go_wp2
          ((try simp only [Exit.inBlock, Exit.then]); refine bodyPost_end (results_none rfl _ _ _) rfl ?_)
          exact HE.out
    have i1 : (j : Int) < (mk : Int) := by omega
    have i0 : (0 : Int) ≤ (j : Int) := by omega
    have hkw : IntKind.i64.wrap ((j : Int) + 1) = (j : Int) + 1 := IntWalk.i64_in _ (by omega)
    have hjl : j < (ns.drop kk).length := by rw [HMK.out]; exact hlt
    obtain ⟨b, off, rfl, hbl, hc⟩ := (HS2.out.kp (R := fun b => R b ∨ p ≤ b ∧ b ≤ q2) (fun ad e => .inl (HA2.out ad e)) HK.out).at_ hjl
    obtain ⟨r, hr⟩ : ∃ r, (ns.drop kk)[j] = r := ⟨_, rfl⟩
    rw [hr] at hc
    have hdr : (ns.drop kk).drop j = r :: (ns.drop kk).drop (j + 1) := by rw [List.drop_eq_getElem_cons hjl, hr]
    have HBj : Hid (BS d R (fun b => R b ∨ p ≤ b ∧ b ≤ q2) w a me wk p L N u (.tch (gSetMark r) fun _ => tMarks F ((ns.drop kk).drop (j + 1))) wr c1 s1) := by
      have hB := HH.out
      rw [hdr] at hB
      exact hB
    obtain ⟨Y0, y, hY0, hy, zY⟩ : ∃ (Y0 : World) (y : Nat), wr.alloc (.cells #[.int .i64 0] 53) = Y0 ∧ wr.heap.size = y ∧ Y0.heap[y]? = some (.cells #[.int .i64 0] 53 (0, 0)) := ⟨_, _, rfl, rfl, heap_alloc_new _ _⟩
    have zc := num_cell zY
    have zf : Y0.frozen? ⟨y, 0, none⟩ = false := frozen_of_row Y0 y 0 _ _ zY
    obtain ⟨Y, hY⟩ : ∃ Y, Y0.setCell ⟨y, 0, none⟩ (.int .i64 r) = Y := ⟨_, rfl⟩
    have bY : Below wr.heap.size wr Y := by
      rw [← hY, ← hY0]
      exact (below_new wr _).trans ((Only.set (· = y) _ (p := ⟨y, 0, none⟩) rfl _).below (fun b e => by omega) (by simp))
    have sY : Y.heap.size = y + 1 := by rw [← hY, ← hY0]; simp; omega
    have vY : Y.cell? ⟨y, 0, none⟩ = some (.int .i64 r) := num_cell (t := 53) (by rw [← hY]; exact heap_setCell_same Y0 y 0 _ _ _ zY)
    have HB2 : Hid (BS d R (fun b => (R b ∨ p ≤ b ∧ b ≤ q2) ∨ b = y) w a me wk p L N u (.tch (gSetMark r) fun _ => tMarks F ((ns.drop kk).drop (j + 1))) Y c1 s1) := HBj.out.more bY (fun b e => e.imp id fun e => by omega) (fun b e => .inl (e.imp id fun e => by have := HX.out; omega))
    have HKY : Hid (Kp (fun b => R b ∨ p ≤ b ∧ b ≤ q2) W Y) := HK.out.trans (Kp.below bY HBj.out.lv.lt)
    have HD := Lib.hid (htouch (me := me) (f := 160) (cap := #[ptr p, ptr y]) (g := gSetMark r) (fun W => rfl) HB2.out.lv (fun _ => (by simp only [gSetMark, gAr])) (by
      intro hl w1 FW hWS hR hsz
      exact fin2_walk hWS (HB2.out.lv.fit hl) (HB2.out.tk.cells (hR _ (.inl (.inr ⟨Nat.le_refl _, Nat.le_trans HX.out.1 HX.out.2⟩))).1) (cell_same (hR _ (.inr rfl)).1 vY)))
    obtain ⟨t0, t1, t2⟩ := HB2.out.tk
    clear HH HK hr hjl bY sY vY zY HBj hdr
    go_wp2_with fail
    (try rw [hY])
    refine HD.out.mono ?_
    clear HD t0 t1 t2 hc zc zf hY hY0
    intro e w3 hP
    have hT := BS.call (t := .tch (gSetMark r) fun _ => .ret ()) (K := fun _ => tMarks F ((ns.drop kk).drop (j + 1))) (U := uV) (Q := fun _ => True) HB2.out (keeps_len (fun s => rfl) fun _ => trivial) (fun _ _ _ _ => trivial) hP
    clear hP
    obtain ⟨v, c2, s2, rfl, -, hB, hKp⟩ | ⟨rfl, hP⟩ := hT
    case inr => exact ⟨rfl, hP⟩
    have HB4 : Hid (BS d R (fun b => R b ∨ p ≤ b ∧ b ≤ q2) w a me wk p L N u (tMarks F ((ns.drop kk).drop (j + 1))) w3 c2 s2) := ⟨hB.rn, hB.lv.mono fun b e => .inl e, fun b e => e.imp id fun e => (by have := HX.out; omega), hB.kp, hB.tk, hB.len, hB.fu⟩
    have HK4 : Hid (Kp (fun b => R b ∨ p ≤ b ∧ b ≤ q2) W w3) := HKY.out.trans (hKp.mono fun b e => .inl e)
    clear HB2 hB hKp HKY
    go_wp2
    go_roundg (gk - 1)
    case measure => omega
    case rel => exact ⟨j + 1, c2, s2, by omega, by go_num, HB4.out, HK4.out⟩
end
end Go.Proofs.YtcegianjpifnbaaGreat
namespace Go.Proofs.YtcegianjpifnbaaGreat
open Go.ChangeShapes Go.WideShapes Go.ChangeAt Go.RowKit
set_option linter.unusedVariables false
set_option linter.unusedSimpArgs false
set_option maxRecDepth 20000

/-- A thread that rests. -/
structure Rest (d : Wd) (R : Nat → Prop) (w : World) (a : Nat) (wk : Value) (zs : List Int) (st : Nat) (s : Sig) : Prop where
  lv : ∃ k, Lv0 d R w a wk zs st 0 k s
  in64 : ∀ z ∈ zs, in64 z
/-- A thread at its end. -/
def Ended (d : Wd) (R : Nat → Prop) (w : World) (a : Nat) (os : List Int) (s : Sig) : Prop :=
  ∃ F FW st k O, Th F w a .nilFunc [] st O os 0 k (.slice none 0 0) ∧ WS d FW w s ∧ (∀ b, F b → ¬ FW b) ∧ ∀ b, R b → b < w.heap.size ∧ ¬ F b ∧ ¬ FW b
/-- What work comes to: a slice of numbers, or it waits. -/
def PostW {α : Type} (d : Wd) (R : Nat → Prop) (w : World) (a : Nat) (wk : Value) (out : α → List Int) (o : Out α) (e : Ending) (w' : World) : Prop :=
  Kp R w w' ∧ match o with
  | .ret v c s => (∃ A n k, e = .returned (.slice A n k) ∧ Sl w' A n k (out v) ∧ (out v).length ≤ 1000) ∧ Lv d R w' a wk c s
  | .wait zs st s => e = .panicked waitE ∧ Wt d R w' a wk zs st s
/-- Work's contract, wherever R's blocks are as they were in w. -/
def Works {α : Type} (d : Wd) (R : Nat → Prop) (w : World) (a f : Nat) (args : Array Value) (wk : Value) (P : Sig → Prop) (t : Tr α) (out : α → List Int) : Prop :=
  ∀ w1 R1 zs st s, (∀ b, R b → R1 b) → (∀ b, R b → w1.heap[b]? = w.heap[b]?) → zs.length ≤ 900 → P s → Lv d R1 w1 a wk ⟨zs, st, 0, true⟩ s → path t zs s → Calls Tryz.prog f args w1 (PostW d R1 w1 a wk out (run t ⟨zs, st, 0, true⟩ s))
section
variable {d : Wd} {R R' : Nat → Prop} {w w' w0 : World} {a st ph k me : Nat} {wk : Value} {zs : List Int} {c : Cur} {s : Sig} {n : Int} {α : Type} {P : Sig → Prop} {t : Tr α} {out : α → List Int}
theorem Works.kept {f : Nat} {args : Array Value} (h : Works d R w a f args wk P t out) (hs : ∀ b, R b → w'.heap[b]? = w.heap[b]?) : Works d R w' a f args wk P t out :=
  fun w1 R1 zs st s h1 h2 h3 h4 h5 h6 => h w1 R1 zs st s h1 (fun b e => (h2 b e).trans (hs b e)) h3 h4 h5 h6
theorem Rest.lt (h : Rest d R w a wk zs st s) : ∀ b, R b → b < w.heap.size := by obtain ⟨⟨k, h⟩, _⟩ := h; exact h.lt
/-- What a Step comes to. -/
def StepP {α : Type} (d : Wd) (R : Nat → Prop) (w : World) (a : Nat) (wk : Value) (out : α → List Int) (zs : List Int) (st : Nat) (o : Stp α) (e : Ending) (w' : World) : Prop :=
  Kp R w w' ∧ match o with
  | .done v s => e = .returned (.bool true) ∧ Ended d R w' a (out v) s
  | .more z s => e = .returned (.bool false) ∧ Rest d R w' a wk (zs ++ [z]) (st + 1) s
theorem step_tree {f : Nat} {cap args : Array Value} (hargs : #[ptr a] ++ cap = args) (hen : ∀ W : World, (callFunc f args).run Tryz.prog W = .ok (.enter f args) W)
    (hW : Works d R w a f args (.func (.func f) #[] cap) P t out) (h : Rest d R w a (.func (.func f) #[] cap) zs st s) (hp : path t zs s) (hfit : Fit s) (hP : P s) (hfew : zs.length + st ≤ 900) :
    Calls Tryz.prog 29 #[ptr a] w (StepP d R w a (.func (.func f) #[] cap) out zs st (stp (res t zs s) s)) := by
  obtain ⟨⟨k, F, FW, T, h1, h2, h3, h4⟩, hin⟩ := h
  have hFa := h1.fa
  have haR : ∀ b, R b → b < w.heap.size ∧ ¬ b = a := fun b e => ⟨(h4 b e).1, fun e2 => (h4 b e).2.1 (e2 ▸ h1.fa)⟩
  have haW : ∀ b, FW b → ¬ b = a := fun b e e2 => h3 a h1.fa (e2 ▸ e)
  refine (step_walk (G := fun b => b < w.heap.size ∧ ¬ R b)
    (RP := fun F' ws zs' st' w2 => ∃ v s' FW', stp (res t zs s) s = .done v s' ∧ ws = out v ∧ WS d FW' w2 s' ∧ (∀ b, F' b → ¬ FW' b) ∧ (∀ b, R b → b < w2.heap.size ∧ ¬ F' b ∧ ¬ FW' b) ∧ Kp R w w2)
    (WP := fun F' zs' st' w2 => ∃ z s' FW', stp (res t zs s) s = .more z s' ∧ zs' = zs ++ [z] ∧ st' = st + 1 ∧ WS d FW' w2 s' ∧ (∀ b, F' b → ¬ FW' b) ∧ (∀ b, R b → b < w2.heap.size ∧ ¬ F' b ∧ ¬ FW' b) ∧ Kp R w w2 ∧ ∀ z ∈ zs', in64 z)
    hargs hen h1 (fun b e => e.1) ?_).mono ?_
  · intro w1 hT hO
    have hlv : Lv d (fun b => R b ∨ (w.heap.size ≤ b ∧ b < w1.heap.size)) w1 a (.func (.func f) #[] cap) ⟨zs, st, 0, true⟩ s := by
      refine ⟨⟨F, FW, T, hT, h2.only hO haW, h3, ?_⟩, ⟨fun _ => Nat.zero_le _, fun e => by cases e⟩, by simpa using hfew, hin, fun _ => hfit⟩
      rintro b (e | e)
      · exact ⟨Nat.lt_of_lt_of_le (h4 b e).1 hO.size, (h4 b e).2⟩
      · exact ⟨e.2, fun f => by have := h1.lt b f; omega, fun f => by have := h2.lt b f; omega⟩
    refine (hW w1 _ zs st s (fun b e => .inl e) (fun b e => hO.block b (haR b e).1 (haR b e).2) (by omega) hP hlv hp).mono ?_
    intro e w2 hPW
    have hK0 : Kp R w w1 := Kp.only hO haR
    have hO2 : Only (fun b => b < w.heap.size ∧ ¬ R b) w1 w2 := ⟨hPW.1.os, hPW.1.tape, hPW.1.output, hPW.1.size, fun b hb hn => hPW.1.block b (by
      by_cases hR : R b
      · exact .inl hR
      · exact .inr ⟨by
          by_cases hl : b < w.heap.size
          · exact absurd ⟨hl, hR⟩ hn
          · omega, hb⟩)⟩
    have hK : Kp R w w2 := hK0.trans (hPW.1.mono fun b e => .inl e)
    refine ⟨hO2, ?_⟩
    rcases run_stp t zs st s hp with ⟨v, c', s', hr, hs⟩ | ⟨z, s', hr, hs⟩
    · rw [hr] at hPW
      obtain ⟨-, ⟨A, m, q, rfl, hsl, hl⟩, ⟨F', FW', T', q1, q2, q3, q4⟩, hok, -⟩ := hPW
      refine .inl ⟨F', T', c'.zs, c'.st, c'.k, phOf c'.live, A, m, q, out v, rfl, hsl, hl, ?_, ?_, q1, v, s', FW', hs, rfl, q2, q3, fun b e => q4 b (.inl e), hK⟩
      · unfold phOf; split <;> omega
      · unfold phOf; split <;> omega
    · rw [hr] at hPW
      obtain ⟨-, rfl, ⟨k', F', FW', T', q1, q2, q3, q4⟩, hi6⟩ := hPW
      exact .inr ⟨F', T', zs ++ [z], st + 1, k', rfl, q1, z, s', FW', hs, rfl, rfl, q2, q3, fun b e => q4 b (.inl e), hK, hi6⟩
  · rintro e w' (⟨w2, F', ws, zs', st', k', F'', O', rfl, ⟨v, s', FW', hs, rfl, q2, q3, q4, q5⟩, r1, r2, r3⟩ | ⟨w2, F', T', zs', st', k', rfl, ⟨z, s', FW', hs, rfl, rfl, q2, q3, q4, q5, q6⟩, r1, r2⟩)
    · rw [hs]
      have haw : a < w2.heap.size := Nat.lt_of_lt_of_le (h1.lt a hFa) q5.size
      have hF'a : F' a := (r3 a r1.fa).elim id fun e => by omega
      have hFW : ∀ b, FW' b → ¬ b = a := fun b e e2 => q3 a hF'a (e2 ▸ e)
      refine ⟨q5.trans (Kp.only r2 fun b e => ⟨(q4 b e).1, (haR b e).2⟩), rfl, F'', FW', st', k', O', r1, q2.only r2 hFW, ?_, ?_⟩
      · intro b e f
        rcases r3 b e with e | e
        · exact q3 b e f
        · have := q2.lt b f; omega
      · intro b e
        refine ⟨Nat.lt_of_lt_of_le (q4 b e).1 r2.size, fun f => ?_, (q4 b e).2.2⟩
        rcases r3 b f with f | f
        · exact (q4 b e).2.1 f
        · have := (q4 b e).1; omega
    · rw [hs]
      have hFW : ∀ b, FW' b → ¬ b = a := fun b e e2 => q3 a r1.fa (e2 ▸ e)
      exact ⟨q5.trans (Kp.only r2 fun b e => ⟨(q4 b e).1, (haR b e).2⟩), rfl, ⟨k', F', FW', T', r1, q2.only r2 hFW, q3, fun b e => ⟨Nat.lt_of_lt_of_le (q4 b e).1 r2.size, (q4 b e).2⟩⟩, q6⟩

/-- A world that nobody is at. -/
def Idle (d : Wd) (R : Nat → Prop) (w : World) (s : Sig) : Prop := ∃ FW, WS d FW w s ∧ ∀ b, R b → b < w.heap.size ∧ ¬ FW b
theorem Idle.lt (h : Idle d R w s) : ∀ b, R b → b < w.heap.size := by obtain ⟨FW, _, h⟩ := h; exact fun b e => (h b e).1
theorem Idle.mono (h : Idle d R w s) (hs : ∀ b, R' b → R b) : Idle d R' w s := by obtain ⟨FW, h1, h2⟩ := h; exact ⟨FW, h1, fun b e => h2 b (hs b e)⟩
theorem Idle.more (h : Idle d R w s) (hb : Below w.heap.size w w') (hs : ∀ b, R' b → R b ∨ (w.heap.size ≤ b ∧ b < w'.heap.size)) : Idle d R' w' s := by
  obtain ⟨FW, h1, h2⟩ := h
  refine ⟨FW, h1.below hb, fun b e => ?_⟩
  rcases hs b e with e | e
  · exact ⟨Nat.lt_of_lt_of_le (h2 b e).1 hb.size, (h2 b e).2⟩
  · exact ⟨e.2, fun f => by have := h1.lt b f; omega⟩
theorem Ended.idle {os : List Int} (h : Ended d R w a os s) : Idle d R w s := by
  obtain ⟨F, FW, st, k, O, h1, h2, h3, h4⟩ := h; exact ⟨FW, h2, fun b e => ⟨(h4 b e).1, (h4 b e).2.2⟩⟩
theorem Idle.nx {FW : Nat → Prop} {s' : Sig} (h1 : WS d FW w s) (h2 : ∀ b, R b → b < w.heap.size ∧ ¬ FW b) (h : NxW d FW w s' w') : Idle d R w' s' ∧ Kp R w w' := by
  obtain ⟨F', k1, k2, k3⟩ := h
  refine ⟨⟨F', k1, fun b e => ⟨Nat.lt_of_lt_of_le (h2 b e).1 k2.size, fun f => ?_⟩⟩, Kp.only k2 h2⟩
  rcases k3 b f with f | f
  · exact (h2 b e).2 f
  · have := (h2 b e).1; omega

/-- Start's closure. -/
theorem start1_walk {g : Nat} {capw args : Array Value} {B1 B2 B3 : Nat} {out : α → List Int} {o : Out α} (hargs : #[tkV a d.W me] ++ capw = args) (hen : ∀ W : World, (callFunc g args).run Tryz.prog W = .ok (.enter g args) W)
    (c3 : w.cell? ⟨B3, 0, none⟩ = some (.func (.func g) #[] capw)) (c1 : w.cell? ⟨B1, 0, none⟩ = some (ptr d.W)) (c2 : w.cell? ⟨B2, 0, none⟩ = some (.int .i64 (me : Int)))
    (hw : Calls Tryz.prog g args w (PostW d R w a wk out o)) :
    Calls Tryz.prog 43 #[ptr a, ptr B3, ptr B1, ptr B2] w (PostW d R w a wk out o) := by
  have HW := Lib.hid hw
  clear hw
  go_enter Tryz.func43, Tryz.ntmps43
  go_wp2_with fail
  refine HW.out.mono ?_
  intro e w1 hP
  cases o with
  | wait zs st s' =>
    obtain ⟨k1, rfl, k2⟩ := hP
    exact ⟨rfl, k1, rfl, k2⟩
  | ret v c' s' =>
    have HE := Lib.hid hP
    obtain ⟨k1, ⟨A, n, q, rfl, k3, k4⟩, k2⟩ := hP
    clear k1 k2 k3 k4 HW c1 c2 c3
    go_wp2
    go_ret
    exact HE.out
/-- Where a thread that was started has what it needs. -/
structure Bx (w : World) (W me g : Nat) (capw : Array Value) (B1 B2 B3 : Nat) : Prop where
  c1 : w.cell? ⟨B1, 0, none⟩ = some (ptr W)
  c2 : w.cell? ⟨B2, 0, none⟩ = some (.int .i64 (me : Int))
  c3 : w.cell? ⟨B3, 0, none⟩ = some (.func (.func g) #[] capw)
abbrev wkV (B1 B2 B3 : Nat) : Value := .func (.func 43) #[] #[ptr B3, ptr B1, ptr B2]
/-- Work of a thread that was started. -/
theorem start_works {g : Nat} {capw args : Array Value} {B1 B2 B3 : Nat} (hargs : #[tkV a d.W me] ++ capw = args) (hen : ∀ W : World, (callFunc g args).run Tryz.prog W = .ok (.enter g args) W) (hx : Bx w d.W me g capw B1 B2 B3) (r1 : R B1) (r2 : R B2) (r3 : R B3)
    (hw : Works d R w a g args (wkV B1 B2 B3) P t out) : Works d R w a 43 #[ptr a, ptr B3, ptr B1, ptr B2] (wkV B1 B2 B3) P t out := by
  intro w1 R1 zs st s h1 h2 h3 h4 h5 h6
  exact start1_walk hargs hen (cell_same (h2 _ r3) hx.c3) (cell_same (h2 _ r1) hx.c1) (cell_same (h2 _ r2) hx.c2) (hw w1 R1 zs st s h1 h2 h3 h4 h5 h6)
/-- Start: a thread, with its boxes. -/
def Started (d : Wd) (R : Nat → Prop) (w : World) (me g : Nat) (capw : Array Value) (s : Sig) (e : Ending) (w' : World) : Prop :=
  ∃ a B1 B2 B3, e = .returned (ptr a) ∧ Bx w' d.W me g capw B1 B2 B3 ∧ Rest d (fun b => R b ∨ b = B1 ∨ b = B2 ∨ b = B3) w' a (wkV B1 B2 B3) [] 0 s ∧ Below w.heap.size w w' ∧ w.heap.size ≤ B1 ∧ w.heap.size ≤ B2 ∧ w.heap.size ≤ B3 ∧ w.heap.size ≤ a ∧ a < w'.heap.size
theorem start_boxes (w : World) (W me : Nat) (g : Nat) (capw : Array Value) : ∃ (X : World) (B1 B2 B3 : Nat), ((w.alloc (.cells #[ptr W] 40)).alloc (.cells #[.int .i64 (me : Int)] 3)).alloc (.cells #[.func (.func g) #[] capw] 72) = X ∧ w.heap.size = B1 ∧ B1 + 1 = B2 ∧ B2 + 1 = B3 ∧ Below w.heap.size w X ∧ Bx X W me g capw B1 B2 B3 ∧ X.heap.size = B3 + 1 :=
  ⟨_, _, _, _, rfl, rfl, rfl, rfl, (((Below.refl _ w).alloc (Nat.le_refl _) _).alloc (by simp) _).alloc (by simp; omega) _, ⟨c_old (c_old (c_new rfl rfl)), c_old (c_new (by simp) rfl), c_new (by simp) rfl⟩, by simp⟩
theorem start_walk {g : Nat} {capw : Array Value} (h : Idle d R w s) : Calls Tryz.prog 26 #[ptr d.W, .int .i64 (me : Int), .func (.func g) #[] capw] w (Started d R w me g capw s) := by
  have e3 := mk_fn
  obtain ⟨X, B1, B2, B3, hX, h1, h2, h3, bb, hx, hs⟩ := start_boxes w d.W me g capw
  have HD := Lib.hid (new_func (.func 43) #[] #[ptr B3, ptr B1, ptr B2] X)
  have HE : Hid (∀ e w', (e = .returned (ptr X.heap.size) ∧ Th (fun b => b = X.heap.size) w' X.heap.size (wkV B1 B2 B3) [] 0 (.slice none 0 0) [] 0 0 (.slice none 0 0) ∧ Below X.heap.size X w') → Started d R w me g capw s e w') := by
    rintro e w' ⟨rfl, k1, k2⟩
    obtain ⟨FW, q1, q2⟩ := h
    have hw' : X.heap.size < w'.heap.size := k1.lt _ rfl
    refine ⟨X.heap.size, B1, B2, B3, rfl, ⟨below_read k2 hx.c1, below_read k2 hx.c2, below_read k2 hx.c3⟩, ⟨⟨0, _, FW, _, k1, (q1.below bb).below k2, ?_, ?_⟩, fun z hz => by cases hz⟩, bb.trans (k2.mono bb.size), by omega, by omega, by omega, by omega, hw'⟩
    · intro b e f; have := q1.lt b f; omega
    · rintro b (e | e | e | e)
      · exact ⟨by have := (q2 b e).1; omega, by have := (q2 b e).1; omega, (q2 b e).2⟩
      · exact ⟨by omega, by omega, fun f => by have := q1.lt b f; omega⟩
      · exact ⟨by omega, by omega, fun f => by have := q1.lt b f; omega⟩
      · exact ⟨by omega, by omega, fun f => by have := q1.lt b f; omega⟩
  clear h hx bb hs
  go_enter Tryz.func26, Tryz.ntmps26
  go_wp2_with fail
  refine HD.out.mono ?_
  intro e w' hP
  have HQ := Lib.hid (HE.out e w' hP)
  obtain ⟨rfl, -, -⟩ := hP
  clear HD HE
  go_wp2
  go_ret
  exact HQ.out
end
end Go.Proofs.YtcegianjpifnbaaGreat
namespace Go.Proofs.YtcegianjpifnbaaGreat
open Go.ChangeShapes Go.WideShapes Go.ChangeAt Go.RowKit
set_option linter.unusedVariables false
set_option linter.unusedSimpArgs false
set_option maxRecDepth 20000

section
variable {α : Type}
end
section
variable {d : Wd} {R R' : Nat → Prop} {w w' w0 : World} {a st ph k me : Nat} {wk : Value} {zs : List Int} {c : Cur} {s : Sig} {n : Int} {α : Type} {P : Sig → Prop} {t : Tr α} {out : α → List Int}
/-- What Alone comes to. -/
def AloneP {α : Type} (d : Wd) (R : Nat → Prop) (w : World) (out : α → List Int) (r : α × Sig × Nat) (e : Ending) (w' : World) : Prop :=
  ∃ A n q, e = .returned (.tuple #[.slice A n q, .int .i64 ((max r.2.2 1 : Nat) : Int), .bool true]) ∧ Row 2 w.heap.size w' (.slice A n q) (out r.1) ∧ Idle d (fun b => R b ∨ (Value.slice A n q).ownBlock = some b) w' r.2.1 ∧ Kp R w w'
theorem ended_out {os : List Int} (h : Ended d R w a os s) (hl : os.length ≤ 1000) : Calls Tryz.prog 30 #[ptr a] w fun e w' => ∃ A n q, e = .returned (.slice A n q) ∧ Row 2 w.heap.size w' (.slice A n q) os ∧ Idle d (fun b => R b ∨ (Value.slice A n q).ownBlock = some b) w' s ∧ Kp R w w' := by
  obtain ⟨F, FW, st, k, O, h1, h2, h3, h4⟩ := h
  refine (out_walk h1 hl).mono ?_
  rintro e w' ⟨v, rfl, hr, hb⟩
  obtain ⟨A, n, q, rfl⟩ := hr.shape
  refine ⟨A, n, q, rfl, hr, ⟨FW, h2.below hb, ?_⟩, Kp.below hb fun b e => (h4 b e).1⟩
  rintro b (e | e)
  · exact ⟨Nat.lt_of_lt_of_le (h4 b e).1 hb.size, (h4 b e).2.2⟩
  · have := World.ownsRow.lt hr b e
    exact ⟨this.2, fun f => by have := h2.lt b f; omega⟩
end
end Go.Proofs.YtcegianjpifnbaaGreat
