/-
  Regions that draw, as in TailW: with the slot named; three that may come up.
-/
import Derived.Test.YtmhmgdpcibldlaaTailW
namespace Go.Proofs.Ytmhmgdpcibldlaa
open Go Go.RowKit

section
variable {P : Program} {ops : Array Oper} {Q : Exit → Act → World → Prop} {md : Region.Mode} {C : World → Prop} {st : Nat → Bool} {i j : Nat} {listed : Array Bool}
/-- With the slot named. -/
theorem takeX (i d : Nat) {oi : Oper} {v : Value} {n : Nat} {a : Act} {w : World} (hi : ops[i]? = some oi) (hd : oi.dst = some d)
    (hs : Region.noSelect ops = true) (hf : Region.free md ops listed i = true) (hr : (Region.ready md ops listed).contains i = true) (hcl : closedB md ops listed = true) (hwt : waitsW md ops st i = true)
    (hQ : ∀ c (a : Act) t w, Q (.panic c) { a with tmps := t } w → Q (.panic c) a w) (hC : C w) (hw : Region.wanted oi (yielded ops a.tmps) = true) (hy : ∀ w, C w → (execOp a.eval oi).run P w = .ok (.value v) w)
    (h : anyT P md ops Q C st n (listed.setIfInBounds i true) { a with tmps := a.tmps.setIfInBounds d v } w) : anyT P md ops Q C st (n + 1) listed a w :=
  takeW hi hs hf hr hcl hwt (fun c a w h => by rw [hd] at h; exact hQ c a _ w h) hC hw hy (by rw [hd]; exact h)
theorem skipX (i d : Nat) {oi : Oper} {n : Nat} {a : Act} {w : World} (hi : ops[i]? = some oi) (hd : oi.dst = some d)
    (hs : Region.noSelect ops = true) (hf : Region.free md ops listed i = true) (hr : (Region.ready md ops listed).contains i = true) (hcl : closedB md ops listed = true) (hwt : waitsW md ops st i = true)
    (hQ : ∀ c (a : Act) t w, Q (.panic c) { a with tmps := t } w → Q (.panic c) a w) (hC : C w) (hw : Region.wanted oi (yielded ops a.tmps) = false)
    (h : anyT P md ops Q C st n (listed.setIfInBounds i true) { a with tmps := a.tmps.setIfInBounds d undef } w) : anyT P md ops Q C st (n + 1) listed a w :=
  take_nowW (v := undef) hi (Region.noSelect_spec hs) (fun c a w h => by rw [hd] at h; exact hQ c a _ w h) hwt n listed a w (closed_of hcl) (Region.free_spec hi hf) (List.contains_iff_mem.1 hr) (.inr ⟨hw, rfl⟩) hC (by rw [hd]; exact h)
theorem threeT {P : Program} {ops : Array Oper} {Q : Exit → Act → World → Prop} {md : Region.Mode} {C : World → Prop} {st : Nat → Bool} {i j l : Nat} {listed : Array Bool} {o o' o'' : Oper} {n : Nat} {a : Act} {w : World} (hr : Region.ready md ops listed = [i, j, l]) (hi : ops[i]? = some o) (hj : ops[j]? = some o') (hl : ops[l]? = some o'') (hw : Region.wanted o (yielded ops a.tmps) = true) (hw' : Region.wanted o' (yielded ops a.tmps) = true) (hw'' : Region.wanted o'' (yielded ops a.tmps) = true)
    (h : ∀ K : Act → World → Prop, Hid (∀ a' w', (st i = false → C w') → anyT P md ops Q C st n (listed.setIfInBounds i true) a' w' → K a' w') → Oper.wp P o a w K Q)
    (h' : ∀ K : Act → World → Prop, Hid (∀ a' w', (st j = false → C w') → anyT P md ops Q C st n (listed.setIfInBounds j true) a' w' → K a' w') → Oper.wp P o' a w K Q)
    (h'' : ∀ K : Act → World → Prop, Hid (∀ a' w', (st l = false → C w') → anyT P md ops Q C st n (listed.setIfInBounds l true) a' w' → K a' w') → Oper.wp P o'' a w K Q) : anyT P md ops Q C st (n + 1) listed a w := by
  refine ⟨fun h0 => (by rw [hr] at h0; cases h0), fun k hk => ?_⟩
  rw [hr] at hk
  simp only [List.mem_cons, List.not_mem_nil, or_false] at hk
  rcases hk with rfl | rfl | rfl
  · exact wpOp_step hi fun K hK => by rw [if_pos hw]; exact h K fun a' w' h1 h2 => hK a' w' ⟨h1, h2⟩
  · exact wpOp_step hj fun K hK => by rw [if_pos hw']; exact h' K fun a' w' h1 h2 => hK a' w' ⟨h1, h2⟩
  · exact wpOp_step hl fun K hK => by rw [if_pos hw'']; exact h'' K fun a' w' h1 h2 => hK a' w' ⟨h1, h2⟩
end
end Go.Proofs.Ytmhmgdpcibldlaa
