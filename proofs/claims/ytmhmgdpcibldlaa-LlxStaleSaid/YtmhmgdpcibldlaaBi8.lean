/-
  What world's Begin comes to within work.
-/
import Derived.Test.YtmhmgdpcibldlaaBh8
import Derived.Deep.Cut
namespace Go.Proofs.Ytmhmgdpcibldlaa
open Go.ChangeShapes Go.WideShapes Go.ChangeAt Go.RowKit
set_option linter.unusedVariables false
set_option linter.unusedSimpArgs false
set_option maxRecDepth 20000

section
variable {α β : Type}
/-- What each touch keeps. -/
def Tr.keeps (P : Sig → Prop) : Tr α → Prop
  | .ret _ => True
  | .tch g K => (∀ s, P s → P (g s).2) ∧ ∀ z, (K z).keeps P
  | .lk _ K => ∀ r, (K r).keeps P
theorem run_keeps {P : Sig → Prop} {t : Tr α} {c c' : Cur} {s s' : Sig} {v : α} (ht : t.keeps P) (hs : P s) (h : run t c s = .ret v c' s') : P s' := by
  induction t generalizing c s with
  | ret v => simp only [run] at h; injection h with _ _ h; exact h ▸ hs
  | tch g K ih =>
    simp only [run] at h
    split at h
    · split at h
      · exact ih _ (ht.2 _) hs h
      · exact ih _ (ht.2 _) (ht.1 s hs) h
    · cases h
  | lk n K ih => exact ih _ (ht _) hs h
theorem run_live {t : Tr α} {c c' : Cur} {s s' : Sig} {v : α} (h : run t c s = .ret v c' s') (hl : c'.live = true) : c.live = true ∧ s' = s ∧ c'.zs = c.zs := by
  induction t generalizing c s with
  | ret v => simp only [run] at h; injection h with _ h2 h3; subst h2 h3; exact ⟨hl, rfl, rfl⟩
  | tch g K ih =>
    simp only [run] at h
    split at h
    · rename_i h0
      split at h
      · have := ih _ h; exact ⟨h0, this.2.1, this.2.2⟩
      · have := ih _ h; exact absurd this.1 (by simp)
    · cases h
  | lk n K ih => exact ih _ h
theorem keeps_bind {P : Sig → Prop} {t : Tr α} {K : α → Tr β} (ht : t.keeps P) (hK : ∀ v, (K v).keeps P) : (t.bind K).keeps P := by
  induction t with
  | ret v => exact hK v
  | tch g K' ih => exact ⟨ht.1, fun z => ih z (ht.2 z)⟩
  | lk n K' ih => exact fun r => ih r (ht r)
end
/-- So many threads. -/
def lenP (L : Nat) (s : Sig) : Prop := s.S.length = L
theorem lenP_all (L : Nat) (now : Int) (r j : Nat) : (tAll now r j).keeps (lenP L) := by
  induction r generalizing j with
  | zero => exact trivial
  | succ r ih =>
    refine ⟨fun s h => h, fun z => ?_⟩
    dsimp only
    split
    · exact trivial
    · exact ih _
section
variable {d : Wd} {R R' : Nat → Prop} {w w' w0 : World} {a st ph k me : Nat} {wk : Value} {zs : List Int} {c : Cur} {s : Sig} {n : Int} {α : Type}
theorem Lv0.setR (h : Lv0 d R w a wk zs st ph k s) {q j : Nat} (hq : R q) (v : Value) : Lv0 d R (w.setCell ⟨q, j, none⟩ v) a wk zs st ph k s := by
  obtain ⟨F, FW, T, h1, h2, h3, h4⟩ := h
  have hne : ∀ b, b ≠ q → (w.setCell ⟨q, j, none⟩ v).heap[b]? = w.heap[b]? := fun b e => heap_setCell_other w ⟨q, j, none⟩ b v (fun e2 => e e2)
  exact ⟨F, FW, T, h1.keep (fun b e => hne b fun e2 => (h4 q hq).2.1 (e2 ▸ e)) (by simp), h2.keep (fun b e => hne b fun e2 => (h4 q hq).2.2 (e2 ▸ e)) (by simp), h3, fun b e => ⟨by simpa using (h4 b e).1, (h4 b e).2⟩⟩
theorem Lv.setR (h : Lv d R w a wk c s) {q j : Nat} (hq : R q) (v : Value) : Lv d R (w.setCell ⟨q, j, none⟩ v) a wk c s := ⟨h.lv.setR hq v, h.ok, h.few, h.in64, h.fit⟩
theorem Kp.set (R : Nat → Prop) (w : World) {q j : Nat} (v : Value) (hq : ¬ R q) : Kp R w (w.setCell ⟨q, j, none⟩ v) := ⟨rfl, rfl, rfl, by simp, fun b e => heap_setCell_other w ⟨q, j, none⟩ b v (fun e2 => hq (by have e3 : b = q := e2; rw [← e3]; exact e))⟩
theorem run_in64 {g : Sig → Int × Sig} {c' : Cur} {s' : Sig} {z : Int} (h : Lv d R w a wk c s) (hg : c.live = true → in64 (g s).1) (hr : run (tDo g) c s = .ret z c' s') : in64 z := by
  rcases run_do hr with ⟨e1, e2, _, _, rfl⟩ | ⟨e1, _, _, _, rfl⟩
  · refine h.in64 _ ?_
    simp only [List.getD, List.getElem?_eq_getElem e2, Option.getD_some]
    exact List.getElem_mem e2
  · exact hg e1
theorem now_in (hf : Fit s) : in64 (gNow s).1 := by have := hf.now; simp only [gNow]; unfold in64; omega
/-- Where Begin is: t is to come; X is kept. -/
structure BS (d : Wd) (R X : Nat → Prop) (w : World) (a me : Nat) (wk : Value) (p : Nat) (L N : Nat) (o : Out α) (t : Tr α) (wr : World) (c : Cur) (s : Sig) : Prop where
  rn : o = run t c s
  lv : Lv d X wr a wk c s
  sub : ∀ b, R b ∨ b = p → X b
  kp : Kp R w wr
  tk : Tk wr p a d.W me
  len : s.S.length = L
  fu : c.live = true → c.zs.length + 2 ≤ N
variable {X : Nat → Prop} {p L N : Nat} {o : Out α} {wr w1 : World}
theorem BS.wcell {t : Tr α} (h : BS d R X w a me wk p L N o t wr c s) : wr.cell? ⟨d.W, 2, none⟩ = some (ptr d.E) ∧ wr.cell? ⟨d.W, 0, none⟩ = some (ptr d.A) := by
  obtain ⟨F, FW, T, h1, h2, h3, h4⟩ := h.lv.lv
  exact ⟨h2.cells.2.2.1, h2.cells.1⟩
theorem BS.more {t : Tr α} {X' : Nat → Prop} (h : BS d R X w a me wk p L N o t wr c s) (hb : Below wr.heap.size wr w') (hx : ∀ b, X' b → X b ∨ (wr.heap.size ≤ b ∧ b < w'.heap.size)) (hs : ∀ b, R b ∨ b = p → X' b) : BS d R X' w a me wk p L N o t w' c s :=
  ⟨h.rn, h.lv.more hb hx, hs, h.kp.trans (Kp.below hb fun b e => h.lv.lt b (h.sub b (.inl e))), h.tk.cells (hb.block p (h.lv.lt p (h.sub p (.inr rfl)))), h.len, h.fu⟩
theorem BS.below {t : Tr α} (h : BS d R X w a me wk p L N o t wr c s) (hb : Below wr.heap.size wr w') : BS d R X w a me wk p L N o t w' c s := h.more hb (fun b e => .inl e) h.sub
theorem BS.setR {t : Tr α} (h : BS d R X w a me wk p L N o t wr c s) {q j : Nat} (hq : X q) (v : Value) (nR : ¬ R q) (np : q ≠ p) : BS d R X w a me wk p L N o t (wr.setCell ⟨q, j, none⟩ v) c s :=
  ⟨h.rn, h.lv.setR hq v, h.sub, h.kp.trans (Kp.set R wr v nR), h.tk.cells (heap_setCell_other wr ⟨q, j, none⟩ p v (fun e => np e.symm)), h.len, h.fu⟩
/-- A call's outcome: what comes behind it. -/
theorem BS.next {β : Type} {t : Tr β} {K : β → Tr α} {V : β → Value} {v : β} {c' : Cur} {s' : Sig} {e : Ending} (h : BS d R X w a me wk p L N o (t.bind K) wr c s) (hr : run t c s = .ret v c' s') (hk : t.keeps (lenP L))
    (hP : Post d X wr a wk V (.ret v c' s') e w1) : BS d R X w a me wk p L N o (K v) w1 c' s' := by
  obtain ⟨k1, -, k2⟩ := hP
  refine ⟨?_, k2, h.sub, h.kp.trans (k1.mono fun b e => h.sub b (.inl e)), h.tk.cells (k1.block p (h.sub p (.inr rfl))), run_keeps hk h.len hr, fun hl => ?_⟩
  · have := h.rn
    rw [run_bind, hr] at this
    exact this
  · obtain ⟨e1, e2, e3⟩ := run_live hr hl
    rw [e3]
    exact h.fu e1
theorem BS.waits {β : Type} {t : Tr β} {K : β → Tr α} {V : β → Value} {U : α → Value} {zs' : List Int} {st' : Nat} {s' : Sig} {e : Ending} (h : BS d R X w a me wk p L N o (t.bind K) wr c s) (hr : run t c s = .wait zs' st' s')
    (hP : Post d X wr a wk V (.wait zs' st' s') e w1) : e = .panicked waitE ∧ Post d R w a wk U o e w1 := by
  have := h.rn
  rw [run_bind, hr] at this
  subst this
  obtain ⟨k1, k2, k3⟩ := hP
  exact ⟨k2, h.kp.trans (k1.mono fun b e => h.sub b (.inl e)), k2, k3.mono fun b e => h.sub b (.inl e)⟩
theorem BS.end_ {v : α} {U : α → Value} (h : BS d R X w a me wk p L N o (.ret v) wr c s) : Post d R w a wk U o (.returned (U v)) wr := by
  rw [h.rn]
  exact ⟨h.kp, rfl, h.lv.mono fun b e => h.sub b (.inl e)⟩
/-- The outcome of a call, for what comes behind it. -/
def Then (d : Wd) (R X : Nat → Prop) (w : World) (a me : Nat) (wk : Value) (p L N : Nat) (U : α → Value) (o : Out α) {β : Type} (V : β → Value) (K : β → Tr α) (Q : β → Prop) (wr : World) (e : Ending) (w1 : World) : Prop :=
  (∃ v c' s', e = .returned (V v) ∧ Q v ∧ BS d R X w a me wk p L N o (K v) w1 c' s' ∧ Kp X wr w1) ∨ (e = .panicked waitE ∧ Post d R w a wk U o e w1)
theorem BS.call {β : Type} {t : Tr β} {K : β → Tr α} {V : β → Value} {U : α → Value} {e : Ending} {Q : β → Prop} (h : BS d R X w a me wk p L N o (t.bind K) wr c s) (hk : t.keeps (lenP L)) (hQ : ∀ v c' s', run t c s = .ret v c' s' → Q v) (hP : Post d X wr a wk V (run t c s) e w1) : Then d R X w a me wk p L N U o V K Q wr e w1 := by
  cases hr : run t c s with
  | wait zs st s' => rw [hr] at hP; exact .inr (h.waits hr hP)
  | ret v c' s' => rw [hr] at hP; exact .inl ⟨v, c', s', hP.2.1, hQ v c' s' hr, h.next hr hk hP, hP.1⟩
end
end Go.Proofs.Ytmhmgdpcibldlaa
