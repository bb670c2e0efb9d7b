/-
  Two arenas, a player that holds them and the references told so far; which reference an act means.
-/
import Derived.Test.YtbalhjfkkigchaaPlay0
namespace Go.Proofs.Ytbalhjfkkigchaa
open Go.ChangeShapes Go.WideShapes Go.ChangeAt Go.RowKit
set_option linter.unusedVariables false
set_option linter.unusedSimpArgs false
set_option maxRecDepth 20000

structure PI (w : World) (F G : Nat → Prop) (p a b : Nat) (S D : As) (rv : Value) (rs : List Int) (K : List (Nat × Array Value × TypeId)) (wr : World) : Prop where
  arn : Arn false F wr a S
  doc : Arn true G wr b D
  dis : ∀ c, F c → ¬ G c
  head : wr.heap[p]? = some (.cells #[ptr a, ptr b, rv] 31 (0, 0))
  np : ¬ F p ∧ ¬ G p
  row : Row 46 w.heap.size wr rv rs
  nr : ∀ c, rv.ownBlock = some c → ¬ F c ∧ ¬ G c
  low : ∀ c, F c ∨ G c → w.heap.size ≤ c
  lowp : w.heap.size ≤ p
  keep : ∀ x ∈ K, wr.heap[x.1]? = some (.cells x.2.1 x.2.2 (0, 0)) ∧ ¬ F x.1 ∧ ¬ G x.1 ∧ x.2.2 ≠ 46 ∧ x.2.2 ≠ 31
  below : Below w.heap.size w wr
section
variable {w wr wr' : World} {F G : Nat → Prop} {p a b : Nat} {S D S' D' : As} {rv : Value} {rs : List Int} {K : List (Nat × Array Value × TypeId)}
theorem PI.lt (h : PI w F G p a b S D rv rs K wr) : p < wr.heap.size := (Array.getElem?_eq_some_iff.1 h.head).1
theorem PI.cells (h : PI w F G p a b S D rv rs K wr) : wr.cell? ⟨p, 0, none⟩ = some (ptr a) ∧ wr.cell? ⟨p, 1, none⟩ = some (ptr b) ∧ wr.cell? ⟨p, 2, none⟩ = some rv := by
  refine ⟨?_, ?_, ?_⟩ <;> (rw [cell_of_row wr p _ _ _ (0, 0) h.head]; rfl)
theorem PI.free (h : PI w F G p a b S D rv rs K wr) (j : Nat) : wr.frozen? ⟨p, j, none⟩ = false := frozen_of_row wr p j _ _ h.head
theorem PI.next (h : PI w F G p a b S D rv rs K wr) (hb : Below wr.heap.size wr wr') : PI w F G p a b S D rv rs K wr' :=
  ⟨h.arn.below hb, h.doc.below hb, h.dis, (hb.block p h.lt).trans h.head, h.np, h.row.next hb, h.nr, h.low, h.lowp, fun x hx => by obtain ⟨h1, h2⟩ := h.keep x hx; exact ⟨(hb.block _ (Array.getElem?_eq_some_iff.1 h1).1).trans h1, h2⟩, h.below.trans (hb.mono h.below.size)⟩
/-- What the program's arena did. -/
theorem PI.prog (h : PI w F G p a b S D rv rs K wr) (hn : Nx false F wr a S' wr') : ∃ F', PI w F' G p a b S' D rv rs K wr' := by
  obtain ⟨F', h1, ho, h3⟩ := hn
  have key : ∀ c, c < wr.heap.size → ¬ F c → ¬ F' c := fun c hc hF hF' => by rcases h3 c hF' with h4 | h4; exact hF h4; omega
  refine ⟨F', h1, h.doc.only ho (fun c hG hF => h.dis c hF hG), fun c hF hG => ?_, (ho.block p h.lt h.np.1).trans h.head, ⟨key p h.lt h.np.1, h.np.2⟩, own_at h.row fun c e => ho.block c (World.ownsRow.lt h.row c e).2 (h.nr c e).1, fun c e => ⟨key c (World.ownsRow.lt h.row c e).2 (h.nr c e).1, (h.nr c e).2⟩, fun c hc => ?_, h.lowp, fun x hx => ?_, h.below.trans (ho.below (fun c hF => h.low c (.inl hF)) h.below.size)⟩
  · rcases h3 c hF with h4 | h4
    · exact h.dis c h4 hG
    · have := h.doc.lt c hG; omega
  · rcases hc with hc | hc
    · rcases h3 c hc with h4 | h4
      · exact h.low c (.inl h4)
      · exact Nat.le_trans h.below.size h4
    · exact h.low c (.inr hc)
  · obtain ⟨k1, k2, k3, k4⟩ := h.keep x hx
    have hl := (Array.getElem?_eq_some_iff.1 k1).1
    exact ⟨(ho.block _ hl k2).trans k1, key _ hl k2, k3, k4⟩
/-- What the document's arena did. -/
theorem PI.docx (h : PI w F G p a b S D rv rs K wr) (hn : Nx true G wr b D' wr') : ∃ G', PI w F G' p a b S D' rv rs K wr' := by
  obtain ⟨G', h1, ho, h3⟩ := hn
  have key : ∀ c, c < wr.heap.size → ¬ G c → ¬ G' c := fun c hc hF hF' => by rcases h3 c hF' with h4 | h4; exact hF h4; omega
  refine ⟨G', h.arn.only ho (fun c hF hG => h.dis c hF hG), h1, fun c hF hG => ?_, (ho.block p h.lt h.np.2).trans h.head, ⟨h.np.1, key p h.lt h.np.2⟩, own_at h.row fun c e => ho.block c (World.ownsRow.lt h.row c e).2 (h.nr c e).2, fun c e => ⟨(h.nr c e).1, key c (World.ownsRow.lt h.row c e).2 (h.nr c e).2⟩, fun c hc => ?_, h.lowp, fun x hx => ?_, h.below.trans (ho.below (fun c hF => h.low c (.inr hF)) h.below.size)⟩
  · rcases h3 c hG with h4 | h4
    · exact h.dis c hF h4
    · have := h.arn.lt c hF; omega
  · rcases hc with hc | hc
    · exact h.low c (.inl hc)
    · rcases h3 c hc with h4 | h4
      · exact h.low c (.inr h4)
      · exact Nat.le_trans h.below.size h4
  · obtain ⟨k1, k2, k3, k4⟩ := h.keep x hx
    have hl := (Array.getElem?_eq_some_iff.1 k1).1
    exact ⟨(ho.block _ hl k3).trans k1, k2, key _ hl k3, k4⟩
theorem PI.progA (h : PI w F G p a b S D rv rs K wr) (h1 : Arn false F wr' a S') (ho : Only F wr wr') : ∃ F', PI w F' G p a b S' D rv rs K wr' := h.prog (Nx.of h1 ho)
theorem PI.docA (h : PI w F G p a b S D rv rs K wr) (h1 : Arn true G wr' b D') (ho : Only G wr wr') : ∃ G', PI w F G' p a b S D' rv rs K wr' := h.docx (Nx.of h1 ho)
/-- A block that was made just now. -/
theorem PI.add (h : PI w F G p a b S D rv rs K wr) (cs : Array Value) (t : TypeId) (h1 : t ≠ 46) (h2 : t ≠ 31) : PI w F G p a b S D rv rs ((wr.heap.size, cs, t) :: K) (wr.alloc (.cells cs t)) := by
  have hn := h.next (below_new wr (.cells cs t))
  refine ⟨hn.arn, hn.doc, hn.dis, hn.head, hn.np, hn.row, hn.nr, hn.low, hn.lowp, fun x hx => ?_, hn.below⟩
  rcases List.mem_cons.1 hx with rfl | hx
  · exact ⟨heap_alloc_new wr _, fun hF => by have := h.arn.lt _ hF; simp at this, fun hG => by have := h.doc.lt _ hG; simp at this, h1, h2⟩
  · exact hn.keep x hx
theorem PI.drop {x : Nat × Array Value × TypeId} (h : PI w F G p a b S D rv rs (x :: K) wr) : PI w F G p a b S D rv rs K wr :=
  ⟨h.arn, h.doc, h.dis, h.head, h.np, h.row, h.nr, h.low, h.lowp, fun y hy => h.keep y (List.mem_cons_of_mem _ hy), h.below⟩
theorem PI.sub {K' : List (Nat × Array Value × TypeId)} (h : PI w F G p a b S D rv rs K wr) (hs : ∀ x ∈ K', x ∈ K) : PI w F G p a b S D rv rs K' wr :=
  ⟨h.arn, h.doc, h.dis, h.head, h.np, h.row, h.nr, h.low, h.lowp, fun y hy => h.keep y (hs y hy), h.below⟩
/-- A reference is put behind those told. -/
theorem PI.push (h : PI w F G p a b S D rv rs K wr) {v' : Value} {rs' : List Int} (hr : Row 46 w.heap.size wr' v' rs') (hg : wr.grownBy wr' rv.ownBlock) (hb : ∀ c, v'.ownBlock = some c → rv.ownBlock = some c ∨ wr.heap.size ≤ c) :
    wr'.cell? ⟨p, 2, none⟩ = some rv ∧ wr'.frozen? ⟨p, 2, none⟩ = false ∧ PI w F G p a b S D v' rs' K (wr'.setCell ⟨p, 2, none⟩ v') := by
  have hty : Ty wr p 31 := ⟨_, h.head⟩
  have hpr : ∀ c, rv.ownBlock = some c → p ≠ c := fun c e ep => by subst ep; exact absurd (hty.one (own_ty h.row e)) (by decide)
  have hhead : wr'.heap[p]? = _ := (hg.block p h.lt (fun e => hpr p e.symm rfl)).trans h.head
  have hOg : Only (fun c => rv.ownBlock = some c) wr wr' := Only.grown _ hg (fun c e => e)
  have hOs : Only (fun c => c = p) wr' (wr'.setCell ⟨p, 2, none⟩ v') := Only.set (fun c => c = p) wr' (p := ⟨p, 2, none⟩) rfl v'
  have hty' : Ty wr' p 31 := ⟨_, hhead⟩
  refine ⟨by rw [cell_of_row wr' p _ _ _ (0, 0) hhead]; rfl, frozen_of_row wr' p 2 _ _ hhead, (h.arn.only hOg (fun c hF e => (h.nr c e).1 hF)).only hOs (fun c hF e => h.np.1 (e ▸ hF)), (h.doc.only hOg (fun c hF e => (h.nr c e).2 hF)).only hOs (fun c hF e => h.np.2 (e ▸ hF)), h.dis, ?_, h.np, own_set hr (p := ⟨p, 2, none⟩) hty' (by decide) _, fun c e => ?_, h.low, h.lowp, fun y hy => ?_, ?_⟩
  · rw [heap_setCell_same wr' p 2 _ _ v' hhead]; rfl
  · rcases hb c e with h1 | h1
    · exact h.nr c h1
    · exact ⟨fun hF => by have := h.arn.lt c hF; omega, fun hF => by have := h.doc.lt c hF; omega⟩
  · obtain ⟨k1, k2, k3, k4, k5⟩ := h.keep y hy
    have hyt : Ty wr y.1 y.2.2 := ⟨_, k1⟩
    have hl := (Array.getElem?_eq_some_iff.1 k1).1
    have n1 : y.1 ≠ p := fun e => k5 (hyt.one (e ▸ hty))
    have n2 : ∀ c, rv.ownBlock = some c → y.1 ≠ c := fun c e ec => by subst ec; exact k4 (hyt.one (own_ty h.row e))
    exact ⟨(heap_setCell_other wr' ⟨p, 2, none⟩ y.1 _ n1).trans ((hg.block y.1 hl (fun e => n2 y.1 e.symm rfl)).trans k1), k2, k3, k4, k5⟩
  · exact (h.below.grown hg h.below.size fun k e => (World.ownsRow.lt h.row k e).1).setCell (p := ⟨p, 2, none⟩) h.lowp v'
end

abbrev actv (x : Ac) (A : Option Addr) (n c : Nat) (B : Option Addr) (m d : Nat) : Value := .agg #[.int .u8 x.do_, .int .u8 x.on, .int .i64 x.raw, .int .i8 x.i, .int .u8 x.old, .int .u8 x.now, .bool x.sm.x, .bool x.sm.y, .slice A n c, .slice B m d]

set_option maxHeartbeats 4000000 in
theorem on_walk {w wr : World} {F G : Nat → Prop} {p a b : Nat} {S D : As} {T : Option Addr} {L c0 : Nat} {rs : List Int} {K : List (Nat × Array Value × TypeId)} (h : PI w F G p a b S D (.slice T L c0) rs K wr) (hL : rs.length ≤ 100) (x : Ac) (hx : x.wf) (A B : Option Addr) (n c m d : Nat) :
    Calls Try.prog 32 #[ptr p, actv x A n c B m d] wr fun e w' => ∃ r, e = .returned (.int .i64 r) ∧ Below wr.heap.size wr w' := by
  obtain ⟨d0, d1, d2⟩ := h.cells
  have hsl := h.row.sl
  have hlen := Lib.hid hsl.len
  have hL100 : L ≤ 100 := by rw [hsl.len]; exact hL
  have hpl := h.lt
  have HSL := Lib.hid hsl
  obtain ⟨dd, oo, raw, ii, ol, nw, sm⟩ := x
  obtain ⟨w1, w2, w3, w4, w5, w6⟩ := hx
  simp only at w1 w2 w3 w4 w5 w6
  obtain ⟨t, rfl⟩ := Int.eq_ofNat_of_zero_le w2.1
  have ht : t < 256 := by omega
  obtain ⟨u, rfl⟩ := Int.eq_ofNat_of_zero_le w1.1
  obtain ⟨u4, rfl⟩ := Int.eq_ofNat_of_zero_le w5.1
  obtain ⟨u5, rfl⟩ := Int.eq_ofNat_of_zero_le w6.1
  clear h hsl w1 w2 w3 w4 w5 w6
  by_cases h7 : t % 8 = 7
  · have h7' : ((t : Int) % 8 == 7) = true := by simp; omega
    go_enter Try.func32, Try.ntmps32
    go_wp2
    all_goals first | (go_ret; exact ⟨raw, rfl, below_new _ _⟩) | skip
  · have h7' : ((t : Int) % 8 == 7) = false := by simp; omega
    by_cases hL0 : L = 0
    · subst hL0
      go_enter Try.func32, Try.ntmps32
      go_wp2
      all_goals first | (go_ret; exact ⟨raw, rfl, below_new _ _⟩) | skip
    · have hL1 : ((L : Int) == 0) = false := by simp; omega
      obtain ⟨ix, hix⟩ : ∃ ix, (t / 8) % L = ix := ⟨_, rfl⟩
      have hixl : ix < L := by rw [← hix]; exact Nat.mod_lt _ (by omega)
      obtain ⟨g, off, rfl, hgl, hc⟩ := HSL.out.at0 hixl
      obtain ⟨rr, hrr⟩ : ∃ rr, rs.getD ix 0 = rr := ⟨_, rfl⟩
      rw [hrr] at hc
      have hixm : ((t : Int) / 8) % (L : Int) = (ix : Int) := by rw [← hix]; simp
      have x0 : (0 : Int) ≤ (ix : Int) := by omega
      have x1 : (ix : Int) < (L : Int) := by omega
      have hLne : (L : Int) ≠ 0 := by omega
      have ht8 : (0 : Int) ≤ (t : Int) / 8 := by omega
      have HIX := Lib.hid hixm
      clear hrr hix hixm
      go_enter Try.func32, Try.ntmps32
      go_wp2_with fail
      have hixm := HIX.out
      go_quiet (fail)
      go_wp2
      go_ret
      exact ⟨rr, rfl, by first | exact below_drewN (below_new _ _) _ | exact (below_new _ _).drew⟩
end Go.Proofs.Ytbalhjfkkigchaa
