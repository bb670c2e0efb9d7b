/-
  Words for the law ArenaKeeps: an arena beside a node that is changed.
-/
import Derived.Test.YtbalhjfkkigchaaLawC
import Derived.Test.YtbalhjfkkigchaaOpen4
namespace Go.Proofs.Ytbalhjfkkigchaa
open Go.ChangeShapes Go.WideShapes Go.ChangeAt Go.RowKit
set_option linter.unusedVariables false
set_option linter.unusedSimpArgs false
set_option maxRecDepth 20000

/-- An arena at a, a variable at N that holds a node whose rows aren't the arena's, a box at b. -/
structure KI (w : World) (F : Nat → Prop) (a N b : Nat) (S : As) (cs : Array Value) (x y : Bool) (pv kv zv : Value) (n1 n2 n3 : Nat) (wr : World) : Prop where
  arn : Arn false F wr a S
  five : Five wr N x y pv kv zv
  box : wr.heap[b]? = some (.cells cs 36 (0, 0))
  ps : ∃ ps, Prs w.heap.size wr pv ps ∧ ps.length = n1
  ks : ∃ ks, Row 2 w.heap.size wr kv ks ∧ ks.length = n2
  zs : ∃ zs, Row 46 w.heap.size wr zv zs ∧ zs.length = n3
  nf : ∀ c, (pv.ownBlock = some c ∨ kv.ownBlock = some c ∨ zv.ownBlock = some c) → ¬ F c
  nN : ¬ F N
  nb : ¬ F b
  low : ∀ c, F c → w.heap.size ≤ c
  lowN : w.heap.size ≤ N
  below : Below w.heap.size w wr

theorem cellsP_set (l : List (Int × Int)) (k : Nat) (hk : k < l.length) (z : Int) : (cellsP l).set (k * 2) (.int .i64 z) = cellsP (l.set k (z, l[k].2)) := by
  induction l generalizing k with
  | nil => simp at hk
  | cons q l ih =>
    cases k with
    | zero => simp [cellsP]
    | succ k =>
      rw [Nat.succ_mul]
      simp only [cellsP, List.set_cons_succ, List.getElem_cons_succ]
      rw [ih k (by simpa using hk)]
theorem Prs.put {base : Nat} {w : World} {v : Value} {l : List (Int × Int)} (h : Prs base w v l) {k : Nat} (hk : k < l.length) : ∃ g c, v = .slice (some ⟨g, 0, none⟩) l.length c ∧ base ≤ g ∧ g < w.heap.size ∧ (∃ u, w.cell? ⟨g, k * 2, none⟩ = some u) ∧ w.frozen? ⟨g, k * 2, none⟩ = false ∧ Ty w g 73 ∧ ∀ z, Prs base (w.setCell ⟨g, k * 2, none⟩ (.int .i64 z)) v (l.set k (z, l[k].2)) := by
  have hl : w.ownsRow base 73 2 v l.length (cellsP l) := h
  rcases h.2 with ⟨rfl, h0⟩ | ⟨g, cap, cur, rfl, hb, hg, h1, _⟩
  · omega
  · refine ⟨g, cap, rfl, hb, (Array.getElem?_eq_some_iff.1 hg).1, ⟨.int .i64 l[k].1, ?_⟩, World.ownsRow.frozenAt hl (k * 2), ⟨cur, hg⟩, fun z => ?_⟩
    · rw [World.ownsRow.cellAt hl (k * 2) (by omega)]
      exact cellsP_key (List.getElem?_eq_getElem hk)
    · have h3 := (World.ownsRow.stored hl (k * 2) (.int .i64 z)).1
      have e := cellsP_set l k hk z
      unfold Prs
      rw [List.length_set, ← e]
      exact h3

section
variable {w wr wr' : World} {F : Nat → Prop} {a N b : Nat} {S : As} {cs : Array Value} {x y : Bool} {pv kv zv : Value} {n1 n2 n3 : Nat}
theorem KI.next (h : KI w F a N b S cs x y pv kv zv n1 n2 n3 wr) (hb : Below wr.heap.size wr wr') : KI w F a N b S cs x y pv kv zv n1 n2 n3 wr' := by
  obtain ⟨ps, h1, e1⟩ := h.ps
  obtain ⟨ks, h2, e2⟩ := h.ks
  obtain ⟨zs, h3, e3⟩ := h.zs
  exact ⟨h.arn.below hb, h.five.below hb, (hb.block b (Array.getElem?_eq_some_iff.1 h.box).1).trans h.box, ⟨ps, h1.next hb, e1⟩, ⟨ks, h2.next hb, e2⟩, ⟨zs, h3.next hb, e3⟩, h.nf, h.nN, h.nb, h.low, h.lowN, h.below.trans (hb.mono h.below.size)⟩
theorem KI.tyN (h : KI w F a N b S cs x y pv kv zv n1 n2 n3 wr) : Ty wr N 55 := ⟨_, h.five⟩
theorem KI.tyb (h : KI w F a N b S cs x y pv kv zv n1 n2 n3 wr) : Ty wr b 36 := ⟨_, h.box⟩
theorem off_ty {g c : Nat} {t t' : TypeId} (h : Ty wr g t) (h' : Ty wr c t') (hne : t ≠ t') : c ≠ g := fun e => hne (h.one (e ▸ h'))
theorem KI.setP (h : KI w F a N b S cs x y pv kv zv n1 n2 n3 wr) {k : Nat} (hk : k < n1) (z : Int) : ∃ g c, pv = .slice (some ⟨g, 0, none⟩) n1 c ∧ g < wr.heap.size ∧ (∃ u, wr.cell? ⟨g, k * 2, none⟩ = some u) ∧ wr.frozen? ⟨g, k * 2, none⟩ = false ∧ KI w F a N b S cs x y pv kv zv n1 n2 n3 (wr.setCell ⟨g, k * 2, none⟩ (.int .i64 z)) := by
  obtain ⟨ps, h1, e1⟩ := h.ps
  obtain ⟨ks, h2, e2⟩ := h.ks
  obtain ⟨zs, h3, e3⟩ := h.zs
  subst e1
  obtain ⟨g, c, hv, hbg, hgl, hcell, hfz, hty, hput⟩ := h1.put hk
  have hgF : ¬ F g := h.nf g (.inl (by rw [hv]; rfl))
  refine ⟨g, c, hv, hgl, hcell, hfz, ⟨h.arn.only (Only.set (fun c => c = g) wr (p := ⟨g, k * 2, none⟩) rfl _) (fun c hF e => hgF (e ▸ hF)), h.five.off (off_ty hty h.tyN (by decide)) _, (heap_setCell_other wr ⟨g, k * 2, none⟩ b _ (off_ty hty h.tyb (by decide))).trans h.box, ⟨_, hput z, by simp⟩, ⟨ks, own_set h2 (p := ⟨g, k * 2, none⟩) hty (by decide) _, e2⟩, ⟨zs, own_set h3 (p := ⟨g, k * 2, none⟩) hty (by decide) _, e3⟩, h.nf, h.nN, h.nb, h.low, h.lowN, h.below.setCell (p := ⟨g, k * 2, none⟩) hbg _⟩⟩
theorem KI.setK (h : KI w F a N b S cs x y pv kv zv n1 n2 n3 wr) {k : Nat} (hk : k < n2) (z : Int) : ∃ g c, kv = .slice (some ⟨g, 0, none⟩) n2 c ∧ g < wr.heap.size ∧ (∃ u, wr.cell? ⟨g, k, none⟩ = some u) ∧ wr.frozen? ⟨g, k, none⟩ = false ∧ KI w F a N b S cs x y pv kv zv n1 n2 n3 (wr.setCell ⟨g, k, none⟩ (.int .i64 z)) := by
  obtain ⟨ps, h1, e1⟩ := h.ps
  obtain ⟨ks, h2, e2⟩ := h.ks
  obtain ⟨zs, h3, e3⟩ := h.zs
  subst e2
  obtain ⟨g, c, u, hv, hbg, hgl, _, hcell, hfz, hput⟩ := h2.put hk
  have hty : Ty wr g 2 := own_ty h2 (by rw [hv]; rfl)
  have hgF : ¬ F g := h.nf g (.inr (.inl (by rw [hv]; rfl)))
  refine ⟨g, c, hv, hgl, ⟨u, hcell⟩, hfz, ⟨h.arn.only (Only.set (fun c => c = g) wr (p := ⟨g, k, none⟩) rfl _) (fun c hF e => hgF (e ▸ hF)), h.five.off (off_ty hty h.tyN (by decide)) _, (heap_setCell_other wr ⟨g, k, none⟩ b _ (off_ty hty h.tyb (by decide))).trans h.box, ⟨ps, own_set h1 (p := ⟨g, k, none⟩) hty (by decide) _, e1⟩, ⟨_, (hput z).1, by simp⟩, ⟨zs, own_set h3 (p := ⟨g, k, none⟩) hty (by decide) _, e3⟩, h.nf, h.nN, h.nb, h.low, h.lowN, h.below.setCell (p := ⟨g, k, none⟩) hbg _⟩⟩
theorem KI.setZ (h : KI w F a N b S cs x y pv kv zv n1 n2 n3 wr) {k : Nat} (hk : k < n3) (z : Int) : ∃ g c, zv = .slice (some ⟨g, 0, none⟩) n3 c ∧ g < wr.heap.size ∧ (∃ u, wr.cell? ⟨g, k, none⟩ = some u) ∧ wr.frozen? ⟨g, k, none⟩ = false ∧ KI w F a N b S cs x y pv kv zv n1 n2 n3 (wr.setCell ⟨g, k, none⟩ (.int .i64 z)) := by
  obtain ⟨ps, h1, e1⟩ := h.ps
  obtain ⟨ks, h2, e2⟩ := h.ks
  obtain ⟨zs, h3, e3⟩ := h.zs
  subst e3
  obtain ⟨g, c, u, hv, hbg, hgl, _, hcell, hfz, hput⟩ := h3.put hk
  have hty : Ty wr g 46 := own_ty h3 (by rw [hv]; rfl)
  have hgF : ¬ F g := h.nf g (.inr (.inr (by rw [hv]; rfl)))
  refine ⟨g, c, hv, hgl, ⟨u, hcell⟩, hfz, ⟨h.arn.only (Only.set (fun c => c = g) wr (p := ⟨g, k, none⟩) rfl _) (fun c hF e => hgF (e ▸ hF)), h.five.off (off_ty hty h.tyN (by decide)) _, (heap_setCell_other wr ⟨g, k, none⟩ b _ (off_ty hty h.tyb (by decide))).trans h.box, ⟨ps, own_set h1 (p := ⟨g, k, none⟩) hty (by decide) _, e1⟩, ⟨ks, own_set h2 (p := ⟨g, k, none⟩) hty (by decide) _, e2⟩, ⟨_, (hput z).1, by simp⟩, h.nf, h.nN, h.nb, h.low, h.lowN, h.below.setCell (p := ⟨g, k, none⟩) hbg _⟩⟩
/-- Another node is stored into the variable. -/
theorem KI.store (h : KI w F a N b S cs x y pv kv zv n1 n2 n3 wr) {x' y' : Bool} {pv' kv' zv' : Value} {nd : Nd} (h1 : Prs wr.heap.size wr' pv' nd.ps) (h2 : Row 2 wr.heap.size wr' kv' nd.ks) (h3 : Row 46 wr.heap.size wr' zv' nd.zs) (hb : Below wr.heap.size wr wr') :
    KI w F a N b S cs x' y' pv' kv' zv' nd.ps.length nd.ks.length nd.zs.length (((((wr'.setCell ⟨N, 0, none⟩ (.bool x')).setCell ⟨N, 1, none⟩ (.bool y')).setCell ⟨N, 2, none⟩ pv').setCell ⟨N, 3, none⟩ kv').setCell ⟨N, 4, none⟩ zv') ∧
    RdN w.heap.size (((((wr'.setCell ⟨N, 0, none⟩ (.bool x')).setCell ⟨N, 1, none⟩ (.bool y')).setCell ⟨N, 2, none⟩ pv').setCell ⟨N, 3, none⟩ kv').setCell ⟨N, 4, none⟩ zv') (ndv nd.inn nd.tag pv' kv' zv') nd := by
  have hn := h.next hb
  have hNl : N < wr.heap.size := h.five.lt
  have hbl : b < wr.heap.size := (Array.getElem?_eq_some_iff.1 h.box).1
  have hs := h.below.size
  have bN : b ≠ N := off_ty h.tyN h.tyb (by decide)
  have g1 := (((((h1.set_below (p := ⟨N, 0, none⟩) hNl (.bool x')).set_below (p := ⟨N, 1, none⟩) hNl (.bool y')).set_below (p := ⟨N, 2, none⟩) hNl pv').set_below (p := ⟨N, 3, none⟩) hNl kv').set_below (p := ⟨N, 4, none⟩) hNl zv').lower (base' := w.heap.size) hs
  have g2 := (((((h2.set_below (p := ⟨N, 0, none⟩) hNl (.bool x')).set_below (p := ⟨N, 1, none⟩) hNl (.bool y')).set_below (p := ⟨N, 2, none⟩) hNl pv').set_below (p := ⟨N, 3, none⟩) hNl kv').set_below (p := ⟨N, 4, none⟩) hNl zv').lower (base' := w.heap.size) hs
  have g3 := (((((h3.set_below (p := ⟨N, 0, none⟩) hNl (.bool x')).set_below (p := ⟨N, 1, none⟩) hNl (.bool y')).set_below (p := ⟨N, 2, none⟩) hNl pv').set_below (p := ⟨N, 3, none⟩) hNl kv').set_below (p := ⟨N, 4, none⟩) hNl zv').lower (base' := w.heap.size) hs
  have hO5 : Only (fun c => c = N) wr' (((((wr'.setCell ⟨N, 0, none⟩ (.bool x')).setCell ⟨N, 1, none⟩ (.bool y')).setCell ⟨N, 2, none⟩ pv').setCell ⟨N, 3, none⟩ kv').setCell ⟨N, 4, none⟩ zv') :=
    ((((Only.set (fun c => c = N) wr' (p := ⟨N, 0, none⟩) rfl _).then (Only.set (fun c => c = N) _ (p := ⟨N, 1, none⟩) rfl _)).then (Only.set (fun c => c = N) _ (p := ⟨N, 2, none⟩) rfl _)).then (Only.set (fun c => c = N) _ (p := ⟨N, 3, none⟩) rfl _)).then (Only.set (fun c => c = N) _ (p := ⟨N, 4, none⟩) rfl _)
  have hlt : ∀ c, (pv'.ownBlock = some c ∨ kv'.ownBlock = some c ∨ zv'.ownBlock = some c) → wr.heap.size ≤ c := by
    rintro c (e | e | e)
    · exact (World.ownsRow.lt h1 c e).1
    · exact (World.ownsRow.lt h2 c e).1
    · exact (World.ownsRow.lt h3 c e).1
  refine ⟨⟨hn.arn.only hO5 (fun c hF e => h.nN (e ▸ hF)), five_put hn.five, (hO5.block b (Nat.lt_of_lt_of_le hbl hb.size) bN).trans hn.box, ⟨_, g1, rfl⟩, ⟨_, g2, rfl⟩, ⟨_, g3, rfl⟩, fun c e hF => ?_, h.nN, h.nb, h.low, h.lowN, below_five hn.below h.lowN _ _ _ _ _⟩, ?_⟩
  · have := hlt c e
    have := h.arn.lt c hF
    omega
  · obtain ⟨A, c, e1, s1⟩ := g1.form
    obtain ⟨B, d, e2, s2⟩ := g2.form
    obtain ⟨C, q, e3, s3⟩ := g3.form
    subst e1 e2 e3
    refine ⟨A, c, B, d, C, q, rfl, s1, s2, s3, fun ad e => ?_⟩
    rcases e with e | e | e
    · exact own_ad g1 e
    · exact own_ad g2 e
    · exact own_ad g3 e
theorem KI.boxc {A B : Option Addr} {n c m d : Nat} {x' y' : Bool} (h : KI w F a N b S #[.bool x, .bool y, .slice A n c, .slice B m d] x' y' pv kv zv n1 n2 n3 wr) : wr.cell? ⟨b, 0, none⟩ = some (.bool x) ∧ wr.cell? ⟨b, 1, none⟩ = some (.bool y) ∧ wr.cell? ⟨b, 2, none⟩ = some (.slice A n c) ∧ wr.cell? ⟨b, 3, none⟩ = some (.slice B m d) := by
  refine ⟨?_, ?_, ?_, ?_⟩ <;> (rw [cell_of_row wr b _ _ _ (0, 0) h.box]; rfl)
end
end Go.Proofs.Ytbalhjfkkigchaa
