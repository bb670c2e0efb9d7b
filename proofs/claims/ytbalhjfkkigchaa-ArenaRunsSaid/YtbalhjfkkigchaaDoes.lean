/-
  An act, on both arenas: they answer alike.
-/
import Derived.Test.YtbalhjfkkigchaaPlay1
import Derived.Deep.Cut
namespace Go.Proofs.Ytbalhjfkkigchaa
open Go.ChangeShapes Go.WideShapes Go.ChangeAt Go.RowKit
set_option linter.unusedVariables false
set_option linter.unusedSimpArgs false
set_option maxRecDepth 20000

/-- Behind an act: true, and both arenas hold alike. -/
def Did (w : World) (p a b k : Nat) (K0 : List (Nat × Array Value × TypeId)) (e : Ending) (w' : World) : Prop := e = .returned (.bool true) ∧ ∃ F G S D rv rs, PI w F G p a b S D rv rs K0 w' ∧ Inv k S D ∧ rs.length ≤ k
theorem Did.of {w w' : World} {F G : Nat → Prop} {p a b k : Nat} {S D : As} {rv : Value} {rs : List Int} {K K0 : List (Nat × Array Value × TypeId)} (h : PI w F G p a b S D rv rs K w') (hi : Inv k S D) (hr : rs.length ≤ k) (hs : ∀ x ∈ K0, x ∈ K := by intro x hx; simp [hx]) : Did w p a b k K0 (.returned (.bool true)) w' := ⟨rfl, F, G, S, D, rv, rs, h.sub hs, hi, hr⟩
theorem ten_cells {w : World} {b : Nat} {t : TypeId} {c0 c1 c2 c3 c4 c5 c6 c7 c8 c9 : Value} (h : w.heap[b]? = some (.cells #[c0, c1, c2, c3, c4, c5, c6, c7, c8, c9] t (0, 0))) : w.cell? ⟨b, 0, none⟩ = some c0 ∧ w.cell? ⟨b, 1, none⟩ = some c1 ∧ w.cell? ⟨b, 2, none⟩ = some c2 ∧ w.cell? ⟨b, 3, none⟩ = some c3 ∧ w.cell? ⟨b, 4, none⟩ = some c4 ∧ w.cell? ⟨b, 5, none⟩ = some c5 ∧ w.cell? ⟨b, 6, none⟩ = some c6 ∧ w.cell? ⟨b, 7, none⟩ = some c7 ∧ w.cell? ⟨b, 8, none⟩ = some c8 ∧ w.cell? ⟨b, 9, none⟩ = some c9 := by
  refine ⟨?_, ?_, ?_, ?_, ?_, ?_, ?_, ?_, ?_, ?_⟩ <;> (rw [cell_of_row w b _ _ _ (0, 0) h]; rfl)

theorem pi_reads {w wr : World} {F G : Nat → Prop} {p a b bs bx : Nat} {S D : As} {rv : Value} {rs : List Int} {c0 c1 c2 c3 c4 c5 c6 c7 c8 c9 : Value} {u t ol nw : Nat} {raw ii : Int} {sx sy : Bool} {A B : Option Addr} {n c m d : Nat} {K0 : List (Nat × Array Value × TypeId)} (h : PI w F G p a b S D rv rs ((bs, #[c0, c1, c2, c3, c4, c5, c6, c7, c8, c9], 83) :: (bx, #[.int .u8 (u : Int), .int .u8 (t : Int), .int .i64 raw, .int .i8 ii, .int .u8 (ol : Int), .int .u8 (nw : Int), .bool sx, .bool sy, .slice A n c, .slice B m d], 38) :: K0) wr) : wr.cell? ⟨p, 0, none⟩ = some (ptr a) ∧ wr.cell? ⟨p, 1, none⟩ = some (ptr b) ∧ wr.cell? ⟨bs, 0, none⟩ = some (c0) ∧ wr.cell? ⟨bs, 1, none⟩ = some (c1) ∧ wr.cell? ⟨bs, 2, none⟩ = some (c2) ∧ wr.cell? ⟨bs, 3, none⟩ = some (c3) ∧ wr.cell? ⟨bs, 4, none⟩ = some (c4) ∧ wr.cell? ⟨bs, 5, none⟩ = some (c5) ∧ wr.cell? ⟨bs, 6, none⟩ = some (c6) ∧ wr.cell? ⟨bs, 7, none⟩ = some (c7) ∧ wr.cell? ⟨bs, 8, none⟩ = some (c8) ∧ wr.cell? ⟨bs, 9, none⟩ = some (c9) ∧ wr.cell? ⟨bx, 3, none⟩ = some (.int .i8 ii) := by
  obtain ⟨d0, d1, d2⟩ := h.cells
  obtain ⟨x0, x1, x2, x3, x4, x5, x6, x7, x8, x9⟩ := ten_cells (h.keep _ (List.mem_cons_of_mem _ (List.mem_cons_self ..))).1
  obtain ⟨s0, s1, s2, s3, s4, s5, s6, s7, s8, s9⟩ := ten_cells (h.keep _ (List.mem_cons_self ..)).1
  exact ⟨d0, d1, s0, s1, s2, s3, s4, s5, s6, s7, s8, s9, x3⟩

theorem set_self {l : List Pa} {i : Nat} {q : Pa} (h : l[i]? = some q) : l.set i q = l := by
  apply List.ext_getElem?
  intro j
  by_cases e : i = j
  · subst e; rw [List.getElem?_set_self (List.getElem?_eq_some_iff.1 h).1, h]
  · rw [List.getElem?_set_ne e]
theorem Ar.setTen {G : Nat → Prop} {X : World} {b g gc i : Nat} {D : As} {l : List (Pa × Vs)} {Q : Value} {q : Pa} {vv : Vs} (h : Ar true G X b D l (.slice (some ⟨g, 0, none⟩) l.length gc) Q) (hx : l[i]? = some (q, vv)) (q' : Pa) (hnd : q'.nd = q.nd) (hws : q'.ws = q.ws) :
    ∃ W : World, ((((((((((X.setCell ⟨g, i * 10, none⟩ (.int .i64 (q'.cnt : Int))).setCell ⟨g, i * 10 + 1, none⟩ (.bool q'.used)).setCell ⟨g, i * 10 + 2, none⟩ (.bool q'.nd.inn)).setCell ⟨g, i * 10 + 3, none⟩ (.bool q'.nd.tag)).setCell ⟨g, i * 10 + 4, none⟩ vv.pv).setCell ⟨g, i * 10 + 5, none⟩ vv.kv).setCell ⟨g, i * 10 + 6, none⟩ vv.zv).setCell ⟨g, i * 10 + 7, none⟩ vv.wv).setCell ⟨g, i * 10 + 8, none⟩ (.int .i64 q'.info)).setCell ⟨g, i * 10 + 9, none⟩ (.bool q'.mark)) = W ∧
      Ar true G W b { D with pls := D.pls.set i q' } (l.set i (q', vv)) (.slice (some ⟨g, 0, none⟩) l.length gc) Q ∧ Only G X W := by
  have hm := h.mem _ (List.mem_of_getElem? hx)
  have hg := grown_ten X g (i * 10) (.int .i64 (q'.cnt : Int)) (.bool q'.used) (.bool q'.nd.inn) (.bool q'.nd.tag) vv.pv vv.kv vv.zv vv.wv (.int .i64 q'.info) (.bool q'.mark)
  have hr := own_ten (y := (q', vv)) h.row hx (.int .i64 (q'.cnt : Int)) (.bool q'.used) (.bool q'.nd.inn) (.bool q'.nd.tag) vv.pv vv.kv vv.zv vv.wv (.int .i64 q'.info) (.bool q'.mark) rfl
  refine ⟨_, rfl, ?_, Only.grown G hg fun c e => by injection e with e; subst e; exact h.frow g rfl⟩
  exact h.setPl hx (y := (q', vv)) hr hg (fun _ hb => hb) h.lt ⟨by rw [hnd]; exact hm.ps, by rw [hnd]; exact hm.ks, by rw [hnd]; exact hm.zs, by rw [hws]; exact hm.ws, hm.own, by rw [hnd]; exact hm.small, by rw [hws]; exact hm.few⟩ (fun c e => .inl ⟨e, rfl⟩) (fun c e => .inl e)

theorem PI.setB {w wr : World} {F G : Nat → Prop} {p a b bs bx : Nat} {S D : As} {rv : Value} {rs : List Int} {cs cx : Array Value} {K0 : List (Nat × Array Value × TypeId)} (h : PI w F G p a b S D rv rs ((bs, cs, 83) :: (bx, cx, 38) :: K0) wr) (hK0 : ∀ x ∈ K0, x.2.2 ≠ 83) (hw : w.heap.size ≤ bs) (j : Nat) (u : Value) : wr.frozen? ⟨bs, j, none⟩ = false ∧ Only (fun c => c = bs) wr (wr.setCell ⟨bs, j, none⟩ u) ∧ ¬ F bs ∧ ¬ G bs ∧ PI w F G p a b S D rv rs ((bs, cs.setIfInBounds j u, 83) :: (bx, cx, 38) :: K0) (wr.setCell ⟨bs, j, none⟩ u) := by
  obtain ⟨k1, k2, k3, _, _⟩ := h.keep _ (List.mem_cons_self ..)
  obtain ⟨l1, l2, l3, _, _⟩ := h.keep _ (List.mem_cons_of_mem _ (List.mem_cons_self ..))
  simp only at k1 k2 k3 l1 l2 l3
  have hty : Ty wr bs 83 := ⟨_, k1⟩
  have hO : Only (fun c => c = bs) wr (wr.setCell ⟨bs, j, none⟩ u) := Only.set (fun c => c = bs) wr (p := ⟨bs, j, none⟩) rfl u
  have hpb : p ≠ bs := off_ty hty ⟨_, h.head⟩ (by decide)
  have hbb : bx ≠ bs := off_ty hty ⟨_, l1⟩ (by decide)
  refine ⟨frozen_of_row wr bs j _ _ k1, hO, k2, k3, h.arn.only hO (fun c hF e => k2 (e ▸ hF)), h.doc.only hO (fun c hF e => k3 (e ▸ hF)), h.dis, (heap_setCell_other wr ⟨bs, j, none⟩ p _ hpb).trans h.head, h.np, own_set h.row (p := ⟨bs, j, none⟩) hty (by decide) _, h.nr, h.low, h.lowp, fun x hx => ?_, h.below.setCell (p := ⟨bs, j, none⟩) hw u⟩
  rcases List.mem_cons.1 hx with rfl | hx
  · exact ⟨heap_setCell_same wr bs j _ _ u k1, k2, k3, by simp only; decide, by simp only; decide⟩
  · rcases List.mem_cons.1 hx with rfl | hx
    · exact ⟨(heap_setCell_other wr ⟨bs, j, none⟩ bx _ hbb).trans l1, l2, l3, by simp only; decide, by simp only; decide⟩
    · obtain ⟨m1, m2⟩ := h.keep x (List.mem_cons_of_mem _ (List.mem_cons_of_mem _ hx))
      exact ⟨(heap_setCell_other wr ⟨bs, j, none⟩ x.1 _ (off_ty hty ⟨_, m1⟩ (fun e => hK0 x hx e.symm))).trans m1, m2⟩

theorem PI.docx3 {w wr wr' : World} {F G G' : Nat → Prop} {p a b : Nat} {S D D' : As} {rv : Value} {rs : List Int} {K : List (Nat × Array Value × TypeId)} (h : PI w F G p a b S D rv rs K wr) (h1 : Arn true G' wr' b D') (ho : Only G wr wr') (h3 : ∀ c, G' c → G c ∨ wr.heap.size ≤ c) : PI w F G' p a b S D' rv rs K wr' := by
  have key : ∀ c, c < wr.heap.size → ¬ G c → ¬ G' c := fun c hc hF hF' => by rcases h3 c hF' with h4 | h4; exact hF h4; omega
  refine ⟨h.arn.only ho (fun c hF hG => h.dis c hF hG), h1, fun c hF hG => ?_, (ho.block p h.lt h.np.2).trans h.head, ⟨h.np.1, key p h.lt h.np.2⟩, own_at h.row fun c e => ho.block c (World.ownsRow.lt h.row c e).2 (h.nr c e).2, fun c e => ⟨(h.nr c e).1, key c (World.ownsRow.lt h.row c e).2 (h.nr c e).2⟩, fun c hc => ?_, h.lowp, fun x hx => ?_, h.below.trans (ho.below (fun c hF => h.low c (.inr hF)) h.below.size)⟩
  · rcases h3 c hG with h4 | h4
    · exact h.dis c hF h4
    · have := h.arn.lt c hF; omega
  · rcases hc with hc | hc
    · exact h.low c (.inl hc)
    · rcases h3 c hc with h4 | h4
      · exact h.low c (.inr h4)
      · exact Nat.le_trans h.below.size h4
  · obtain ⟨k1, k2, k3, k4⟩ := h.keep x hx
    have hl := (Array.getElem?_eq_some_iff.1 k1).1
    exact ⟨(ho.block _ hl k3).trans k1, k2, key _ hl k3, k4⟩
end Go.Proofs.Ytbalhjfkkigchaa
