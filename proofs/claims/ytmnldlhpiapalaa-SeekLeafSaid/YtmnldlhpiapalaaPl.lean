/-
  A group and what becomes of it.
-/
import Derived.Test.YtmnldlhpiapalaaPi
import Derived.Test.YtmnldlhpiapalaaTh11
namespace Go.Proofs.Ytmnldlhpiapalaa
open Go.ChangeShapes Go.WideShapes Go.ChangeAt Go.RowKit
set_option linter.unusedVariables false
set_option linter.unusedSimpArgs false
set_option maxRecDepth 20000

section
variable {w0 w w' : World} {Y : Nat → Prop} {o p c m e : Nat} {l : List Int} {kk : List Sh} {B C : Option Addr} {s s' : Sh}
/-- An empty row of trees, built at a block. -/
theorem ShR.of_block {g : Nat} (h : w.heap[g]? = some (.cells #[] shT (0, 0))) : ShR Y [] w (.slice (some ⟨g, 0, none⟩) 0 0) :=
  ⟨⟨[], rfl, (fun i x c e => by simp at e), rfl, .inr ⟨g, 0, #[], rfl, Nat.zero_le _, h, Nat.le_refl _, Nat.zero_le _, rfl, rfl⟩⟩⟩
/-- Keys and ways are there: the node is stored. -/
theorem kid_end {u0 u1 u2 u3 u4 : Value} (hv : Shc w o u0 u1 u2 u3 u4) (hr : Row i6T w0.heap.size w (.slice B m e) l) (hk : ShR Y kk w (.slice C p c)) (hb : Below w0.heap.size w0 w) (ho : w0.heap.size ≤ o) (hC : ∀ b, (Value.slice C p c).ownBlock = some b → w0.heap.size ≤ b ∧ b ≠ o) (hY : ∀ b, Y b → b < w0.heap.size) :
    KidV w0 Y o l kk C p c (put5 w o (.bool false) (.bool false) (.slice none 0 0) (.slice B m e) (.slice C p c)) := by
  have hn : ∀ b, b ≠ o → (put5 w o (.bool false) (.bool false) (.slice none 0 0) (.slice B m e) (.slice C p c)).heap[b]? = w.heap[b]? := fun b f => put5_block w o _ _ _ _ _ f
  have h1 := only_put5 w o (.bool false) (.bool false) (.slice none 0 0) (.slice B m e) (.slice C p c)
  exact ⟨⟨B, m, e, hv.put, own_at hr fun b f => hn b (row_ne hr hv b f)⟩, hk.keep (fun b f => hn b (by have := hY b f; omega)) (fun b f => hn b (hC b f).2) fun b f => f, hb.trans (h1.below (fun b f => by rw [f]; exact ho) hb.size), ho, hC, hY⟩
/-- A tree in a variable at o. -/
def NodeV (w0 : World) (Y : Nat → Prop) (o : Nat) (s : Sh) (w : World) : Prop := ∃ (lf tg : Bool) (A : Option Addr) (n k : Nat) (B : Option Addr) (m e : Nat) (C : Option Addr) (p c : Nat), Shc w o (.bool lf) (.bool tg) (.slice A n k) (.slice B m e) (.slice C p c) ∧ ShY (fun b => (Y b ∨ w0.heap.size ≤ b ∧ b < w.heap.size) ∧ b ≠ o) w s (shv lf tg (.slice A n k) (.slice B m e) (.slice C p c)) ∧ Below w0.heap.size w0 w ∧ w0.heap.size ≤ o ∧ ∀ b, Y b → b < w0.heap.size
theorem KidV.node (h : KidV w0 Y o l kk C p c w) (hk : kk ≠ []) : NodeV w0 Y o (.mk false false [] l kk) w := by
  obtain ⟨B, m, e, h1, h2⟩ := h.var
  obtain ⟨k1, k2, k3⟩ := h.rows.kids
  refine ⟨_, _, _, _, _, _, _, _, _, _, _, h1, ⟨none, 0, 0, B, m, e, C, p, c, rfl, Lp.nil _, (fun _ f => by cases f), h2.sl, fun ad f => ?_, k1, k2, ?_⟩, h.bel, h.ge, h.low⟩
  · have := Sl.row h2 ad f
    have h3 : (Value.slice B m e).ownBlock = some ad.block := by rw [f]; rfl
    exact ⟨.inr this, row_ne h2 h1 _ h3⟩
  · rcases k3 with f | ⟨g, rfl, hc⟩
    · exact absurd f hk
    · exact .inr ⟨g, 0, rfl, ⟨.inr ⟨(h.own g rfl).1, h.rows.lt rfl⟩, (h.own g rfl).2⟩, ShYC.keep (fun b f => rfl) (fun b f => ⟨.inl f, by have := h.low b f; have := h.ge; omega⟩) _ _ _ rfl hc⟩
theorem NodeV.below (h : NodeV w0 Y o s w) (hb : Below w.heap.size w w') : NodeV w0 Y o s w' := by
  obtain ⟨lf, tg, A, n, k, B, m, e, C, p, c, h1, h2, h3, h4, h5⟩ := h
  have hs := h3.size
  refine ⟨lf, tg, A, n, k, B, m, e, C, p, c, h1.below hb, ShY.keep (fun b f => hb.block b ?_) (fun b f => ⟨f.1.imp id fun g => ⟨g.1, Nat.lt_of_lt_of_le g.2 hb.size⟩, f.2⟩) _ _ h2, h3.trans (hb.mono hs), h4, h5⟩
  rcases f.1 with g | g
  · have := h5 b g; omega
  · exact g.2
/-- It is tagged, and stored again. -/
theorem NodeV.store {lf tg : Bool} {A : Option Addr} {n k : Nat} {Z : Nat → Prop} (h : NodeV w0 Y o s w) (hb : Below w.heap.size w w') (h2 : ShY Z w' s' (shv lf tg (.slice A n k) (.slice B m e) (.slice C p c))) (hZ : ∀ b, Z b → ((Y b ∨ w0.heap.size ≤ b ∧ b < w.heap.size) ∧ b ≠ o) ∨ w.heap.size ≤ b ∧ b < w'.heap.size) : NodeV w0 Y o s' (put5 w' o (.bool lf) (.bool tg) (.slice A n k) (.slice B m e) (.slice C p c)) := by
  obtain ⟨_, _, _, _, _, _, _, _, _, _, _, h1, -, h3, h4, h5⟩ := h
  have hlt := (Array.getElem?_eq_some_iff.1 h1).1
  have ho := only_put5 w' o (.bool lf) (.bool tg) (.slice A n k) (.slice B m e) (.slice C p c)
  have hs := h3.size
  have hbw := h3.trans (hb.mono hs)
  have hne : ∀ b, Z b → b ≠ o := fun b f => by
    rcases hZ b f with g | g
    · exact g.2
    · omega
  refine ⟨lf, tg, A, n, k, B, m, e, C, p, c, (h1.below hb).put, ShY.keep (fun b f => put5_block w' o _ _ _ _ _ (hne b f)) (fun b f => ⟨?_, hne b f⟩) _ _ h2, hbw.trans (ho.below (fun b f => by rw [f]; exact h4) hbw.size), h4, h5⟩
  have := ho.size
  have := hb.size
  rcases hZ b f with g | g
  · exact g.1.imp id fun g2 => ⟨g2.1, by omega⟩
  · exact .inr ⟨by omega, by omega⟩
end
end Go.Proofs.Ytmnldlhpiapalaa
namespace Go.Proofs.Ytmnldlhpiapalaa
open Go.ChangeShapes Go.WideShapes Go.ChangeAt Go.RowKit
set_option linter.unusedVariables false
set_option linter.unusedSimpArgs false
set_option maxRecDepth 20000

section
variable {w w' : World} {D base : Nat} {cs : Array Value} {v : Value} {zs : List Int}
theorem blk_push (h : w.heap[D]? = some (.cells cs shT (0, 0))) (hr : Row i6T base w v zs) (hg : w.grownBy w' v.ownBlock) : w'.heap[D]? = some (.cells cs shT (0, 0)) :=
  (hg.block D (Array.getElem?_eq_some_iff.1 h).1 fun e => absurd ((own_ty hr e.symm).one ⟨_, h⟩) (by decide)).trans h
theorem row_past (hr : Row i6T base w v zs) (h : w.heap[D]? = some (.cells cs shT (0, 0))) (hg : w.grownBy w' (Value.slice (some ⟨D, 0, none⟩) 0 0).ownBlock) : Row i6T base w' v zs :=
  own_at hr fun b f => hg.block b (World.ownsRow.lt hr b f).2 fun f2 => by
    have e : b = D := Option.some.inj (show some b = some D from f2)
    subst e
    exact absurd ((own_ty hr f).one ⟨_, h⟩) (by decide)
theorem sl_get {g o n c i : Nat} {z : Int} (h : Sl w (some ⟨g, o, none⟩) n c zs) (hz : zs[i]? = some z) : w.cell? ⟨g, o + i, none⟩ = some (.int .i64 z) := by
  rcases h.cells with e | ⟨b, off, e, hc⟩
  · subst e; simp at hz
  · injection e with e
    injection e with e1 e2
    subst e1; subst e2
    exact hc i z hz
end
/-- A node of a group, tagged k times at most. -/
structure TgS (G s : Sh) (k : Nat) : Prop where
  wf : s.wf
  small : s.small
  many : s.many ≤ G.many + k
  deep : s.deep ≤ G.deep + k
  ord : s.ord
  all : s.all = G.all
theorem TgS.more {G s s' : Sh} {k : Nat} (h : TgS G s k) (hw : s'.wf) (hs : s'.small) (hm : s'.many ≤ s.many + 1) (hd : s'.deep ≤ s.deep + 1) (ho : s.ord → s'.ord ∧ s'.all = s.all) : TgS G s' (k + 1) :=
  ⟨hw, hs, by have := h.many; omega, by have := h.deep; omega, (ho h.ord).1, (ho h.ord).2.trans h.all⟩
theorem TgS.le {G s : Sh} {k m : Nat} (h : TgS G s k) (hk : k ≤ m) : TgS G s m :=
  ⟨h.wf, h.small, by have := h.many; omega, by have := h.deep; omega, h.ord, h.all⟩
end Go.Proofs.Ytmnldlhpiapalaa
