/-
  A law's own rows beside helpers; calls that change the world alone.
-/
import Derived.Test.YtcegianjpifnbaaGreatNd10
namespace Go.Proofs.YtcegianjpifnbaaGreat
open Go.ChangeShapes Go.WideShapes Go.ChangeAt Go.RowKit
set_option linter.unusedVariables false
set_option linter.unusedSimpArgs false
set_option maxRecDepth 20000

section
variable {W : World} {X X' : Nat → Prop} {d : Wd} {n T i : Nat} {hs : Nat → Hp} {os : Nat → Ts} {s s' : Sig} {w w' : World} {el : TypeId} {v : Value} {zs : List Int}
/-- What a law keeps as it is. -/
def RX (W : World) (X : Nat → Prop) (b : Nat) : Prop := b < W.heap.size ∨ X b
theorem MB.nxK {F : Nat} {args : Array Value} {v : Value} (h : MB W X d n T hs os s w) (hc : ∀ FW, WS d FW w s → Calls Tryz.prog F args w fun e w' => e = .returned v ∧ NxW d FW w s' w') (hl : n = 0 ∨ Le s s' := by first | exact .inl rfl | exact .inr (Le.rs rfl) | exact .inr (Le.refl _)) : Calls Tryz.prog F args w fun e w' => e = .returned v ∧ MB W X d n T hs os s' w' ∧ Kp (RX W X) w w' := by
  obtain ⟨⟨FW, P, hM⟩, hb⟩ := h
  refine (hc FW hM.ws).mono ?_
  rintro e w' ⟨rfl, hn⟩
  obtain ⟨k1, k2⟩ := hM.nx hn hl
  exact ⟨rfl, ⟨k1, hb.trans (kp_below (k2.mono fun b e => .inl e))⟩, k2⟩
theorem MB.kb (h : MB W X d n T hs os s w) (hb : Below w.heap.size w w') : Kp (RX W X) w w' := Kp.below hb fun b e => h.me.lt b e
/-- A row in blocks of X. -/
structure RowX (X : Nat → Prop) (el : TypeId) (w : World) (v : Value) (zs : List Int) : Prop where
  row : Row el 0 w v zs
  own : ∀ b, v.ownBlock = some b → X b
theorem RowX.kp (h : RowX X el w v zs) (hk : Kp (RX W X) w w') : RowX X el w' v zs := ⟨own_at h.row fun b e => hk.block b (.inr (h.own b e)), h.own⟩
theorem RowX.mono (h : RowX X el w v zs) (hX : ∀ b, X b → X' b) : RowX X' el w v zs := ⟨h.row, fun b e => hX b (h.own b e)⟩
theorem RowX.nil (X : Nat → Prop) (el : TypeId) (w : World) : RowX X el w (.slice none 0 0) [] := ⟨Row.nil _ _ _, fun b e => by cases e⟩
theorem RowX.at_ (h : RowX X el w v zs) {z : Int} (hi : zs[i]? = some z) : ∃ b c, v = .slice (some ⟨b, 0, none⟩) zs.length c ∧ X b ∧ w.cell? ⟨b, i, none⟩ = some (.int .i64 z) := by
  have hl : i < zs.length := (List.getElem?_eq_some_iff.1 hi).1
  obtain ⟨g, c, u, hv, -, hg, -, hc, -⟩ := h.row.put hl
  obtain ⟨A, c', hv', hs⟩ := h.row.form
  rw [hv] at hv'
  injection hv' with e1 e2 e3
  subst e1 e3
  obtain ⟨b, off, e, -, hcell⟩ := hs.at_ hl
  injection e with e
  injection e with e1 e2
  subst e1 e2
  refine ⟨g, c, hv, h.own g (by rw [hv]; rfl), ?_⟩
  rw [Nat.zero_add] at hcell
  rw [hcell, (List.getElem?_eq_some_iff.1 hi).2]
theorem RowX.len (h : RowX X el w v zs) : ∃ A c, v = .slice A zs.length c ∧ Sl w A zs.length c zs ∧ ∀ ad : Addr, A = some ad → X ad.block := by
  obtain ⟨A, c, rfl, hs⟩ := h.row.form
  refine ⟨A, c, rfl, hs, fun ad e => ?_⟩
  subst e
  exact h.own ad.block (by simp [Value.ownBlock])
theorem NdI.rowX {m k L : Nat} (h : NdI W d L m k v w) : RowX (ownX W v) 53 w v (refN k) := ⟨h.row, fun b e => ⟨e, h.own b e⟩⟩
end
end Go.Proofs.YtcegianjpifnbaaGreat
