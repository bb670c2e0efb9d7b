/-
  What arena's nextPlace returns: the place that was freed first, or a new one.
-/
import Derived.Test.YtmnbdhngadjmiaaAr6
namespace Go.Proofs.Ytmnbdhngadjmiaa
open Go.ChangeShapes Go.WideShapes Go.ChangeAt Go.RowKit
set_option linter.unusedVariables false
set_option linter.unusedSimpArgs false
set_option maxRecDepth 20000

/-- A place that was never used. -/
def Pa.nil : Pa := ⟨false, 0, Nd.nil, [], 0, false⟩
theorem PaM.nil (w : World) (F : Nat → Prop) (p : Pa) (h1 : p.nd.ps = []) (h2 : p.nd.ks = []) (h3 : p.nd.zs = []) (h4 : p.ws = []) : PaM w F (p, Vs.nil) := by
  refine ⟨by rw [h1]; exact Prs.nil _ _, by rw [h2]; exact Row.nil _ _ _, by rw [h3]; exact Row.nil _ _ _, by rw [h4]; exact Row.nil _ _ _, ?_, ?_, by simp [h4]⟩
  · rintro b (e | e | e | e) <;> cases e
  · unfold Nd.small; simp [h1, h2, h3]

theorem pl_info : ∀ d : Bool, ∃ z by_, by_ ≤ 200 ∧ z.cells.size = 10 ∧ (Try.prog.info? (plT d)).map (fun i => (i.zero, i.size, i.bytes)) = some (some z, 10, by_)
  | false => ⟨.agg #[.bool false, .int .u32 0, .bool false, .bool false, .slice none 0 0, .slice none 0 0, .slice none 0 0, .slice none 0 0, .int .i64 0, .bool false], 128, by omega, rfl, by kernel_rfl⟩
  | true => ⟨.agg #[.bool false, .int .u32 0, .bool false, .bool false, .slice none 0 0, .slice none 0 0, .slice none 0 0, .slice none 0 0, .int .i64 0, .bool false], 128, by omega, rfl, by kernel_rfl⟩
def plS : Bool → TypeId
  | false => 87
  | true => 87
theorem plS_under : ∀ d : Bool, Try.prog.underlying (plS d) = some (.slice (plT d))
  | false => Try.underlying87
  | true => Try.underlying87
def hdP : Bool → Nat
  | false => 1
  | true => 0
def hdQ : Bool → Nat
  | false => 2
  | true => 1

section
variable {d : Bool} {F : Nat → Prop} {w w' : World} {a : Nat} {S : As} {l : List (Pa × Vs)} {P Q : Value}
theorem Ar.pushPl (h : Ar d F w a S l P Q) {P' : Value} (hr : w'.ownsRow 0 (plT d) 10 P' (l.length + 1) (rowOf d (l ++ [(Pa.nil, Vs.nil)]))) (hg : w.grownBy w' P.ownBlock) (hb : ∀ b, P'.ownBlock = some b → P.ownBlock = some b ∨ w.heap.size ≤ b) :
    w'.heap[a]? = w.heap[a]? ∧ Ar d (fun b => F b ∨ P'.ownBlock = some b) (w'.setCell ⟨a, hdP d, none⟩ P') a { S with pls := S.pls ++ [Pa.nil] } (l ++ [(Pa.nil, Vs.nil)]) P' Q ∧ Only F w (w'.setCell ⟨a, hdP d, none⟩ P') := by
  obtain ⟨n1, n2, n3, n4, n5⟩ := plT_ne d
  obtain ⟨m1, m2, m3, m4, m5⟩ := hdT_ne d
  have hPty : ∀ b, P.ownBlock = some b → Ty w b (plT d) := fun b e => own_ty h.row e
  have ho : ∀ b t, Ty w b t → plT d ≠ t → b < w.heap.size → w'.heap[b]? = w.heap[b]? := fun b t ht hne hbl => hg.block b hbl (fun e => hne ((hPty b e.symm).one ht))
  have ha := ho a _ h.tyA n1 h.lta
  have hty : Ty w' a (hdT d) := ⟨_, ha.trans h.head⟩
  refine ⟨ha, ⟨?_, ?_, .inl h.fa, ?_, ?_, fun b e => .inr e, ?_, fun b e => .inl (h.fque b e), ?_, ?_⟩, ?_⟩
  · rintro b (hF | hF)
    · simpa using Nat.lt_of_lt_of_le (h.lt b hF) hg.size
    · simpa using (hr.lt b hF).2
  · rw [heap_setCell_same w' a (hdP d) _ _ P' (ha.trans h.head)]
    cases d <;> rfl
  · simp [h.pls]
  · rw [List.length_append]
    exact own_set hr (p := ⟨a, hdP d, none⟩) hty m1 _
  · refine h.que.at_ fun b e => ?_
    have hq := h.que.ty e
    rw [heap_setCell_other w' ⟨a, hdP d, none⟩ b _ (fun eb => m2 (h.tyA.one (by subst eb; exact hq)))]
    exact ho b _ hq n2 (h.lt b (h.fque b e))
  · intro x hx
    simp only [List.mem_append, List.mem_singleton] at hx
    rcases hx with hx | rfl
    · refine ((h.mem x hx).keep fun b e => ?_).mono fun b e => .inl e
      have hnP : ∀ g, P.ownBlock = some g → b ≠ g := fun g eg ebg => by subst ebg; exact (h.mem x hx).not (hPty b eg) n3 n4 n5 e
      have hna : b ≠ a := fun eb => by subst eb; exact (h.mem x hx).not h.tyA m3 m4 m5 e
      rw [heap_setCell_other w' ⟨a, hdP d, none⟩ b _ hna]
      exact hg.block b (h.lt b ((h.mem x hx).own b e)) (fun eb => hnP b eb.symm rfl)
    · exact PaM.nil _ _ Pa.nil rfl rfl rfl rfl
  · intro i j x y g hi hj hw
    have key : ∀ (j : Nat) (y : Pa × Vs), (l ++ [(Pa.nil, Vs.nil)])[j]? = some y → l[j]? = some y ∨ y = (Pa.nil, Vs.nil) := by
      intro j y hj
      by_cases hjl : j < l.length
      · rw [List.getElem?_append_left hjl] at hj; exact .inl hj
      · rw [List.getElem?_append_right (by omega)] at hj
        have : j - l.length = 0 := by
          have := (List.getElem?_eq_some_iff.1 hj).1
          simp at this; omega
        rw [this] at hj
        simp at hj
        exact .inr hj.symm
    rcases key i x hi with hi | rfl
    · rcases key j y hj with hj | rfl
      · exact h.sep i j x y g hi hj hw
      · exact ⟨fun e => (by cases e), fun _ e => (by cases e)⟩
    · cases hw
  · exact (Only.grown F hg fun b e => h.frow b e).then (Only.set F w' (p := ⟨a, hdP d, none⟩) h.fa _)

/-- The run of 'append(places, place{})'. -/
theorem Ar.runPl (h : Ar d F w a S l P Q) (ty : TypeId) (s : Nat) (hs : ∀ (j : Nat) (u : Value), (cellsOf d (Pa.nil, Vs.nil))[j]? = some u → w.cell? ⟨s, j, none⟩ = some u) (hl : l.length ≤ 70000) :
    ∃ P' w', (Builtin.append_ #[plS d, plS d] ty #[P, .slice (some ⟨s, 0, none⟩) 1 1]).run Try.prog w = .ok P' w' ∧ (∃ A c, P' = .slice A (l.length + 1) c) ∧ w'.heap[a]? = w.heap[a]? ∧ Ar d (fun b => F b ∨ P'.ownBlock = some b) (w'.setCell ⟨a, hdP d, none⟩ P') a { S with pls := S.pls ++ [Pa.nil] } (l ++ [(Pa.nil, Vs.nil)]) P' Q ∧ Only F w (w'.setCell ⟨a, hdP d, none⟩ P') ∧ (∀ b, P'.ownBlock = some b → F b ∨ w.heap.size ≤ b) := by
  obtain ⟨z, by_, hby, hzc, hinf⟩ := pl_info d
  obtain ⟨i0, hi0, hz0, hz1, hz2⟩ := info_parts hinf
  obtain ⟨P', w', hr, ho, hg, hb⟩ := run_push (w := w) (plS d) ty (plT d) i0 z 10 by_ (plS_under d) hi0 hz0 hz1 hz2 hzc (by omega) P l.length (rowOf d l) h.row ⟨s, 0, none⟩ 1 1 (cellsOf d (Pa.nil, Vs.nil)) (by rw [cellsOf_length])
    (fun j u hj => by rw [add_lit0, Nat.zero_add]; exact hs j u hj) (by cases d <;> (intro u hu; simp [cellsOf, Pa.nil, Vs.nil, Nd.nil] at hu; first | (rcases hu with rfl | rfl | rfl | rfl | rfl | rfl <;> rfl) | (rcases hu with rfl | rfl | rfl | rfl | rfl <;> rfl))) (by unfold maxLen; omega) (by have : (l.length + 1) * by_ ≤ 70001 * 200 := Nat.mul_le_mul (by omega) hby; omega)
  have ho2 : w'.ownsRow 0 (plT d) 10 P' (l.length + 1) (rowOf d (l ++ [(Pa.nil, Vs.nil)])) := by rw [rowOf_append, rowOf, rowOf, List.append_nil]; exact ho
  obtain ⟨h1, h2, h3⟩ := h.pushPl ho2 hg hb
  refine ⟨P', w', hr, ?_, h1, h2, h3, fun b e => (hb b e).imp (fun e => h.frow b e) id⟩
  rcases ho2.2 with ⟨_, h0⟩ | ⟨g, cap, cur, rfl, _⟩
  · omega
  · exact ⟨_, cap, rfl⟩
end

section
variable {F : Nat → Prop} {w : World} {a : Nat} {S : As} {l : List (Pa × Vs)} {P Q : Value}
set_option maxHeartbeats 1000000 in
theorem next_old (h : Ar false F w a S l P Q) (i : Nat) (fr : List Nat) (hfr : S.fr = i :: fr) :
    Calls Try.prog 64 #[ptr a] w fun e w' => e = .returned (.int .i64 (i : Int)) ∧ (∃ Q', Ar false F w' a { S with fr := fr } l P Q') ∧ Only F w w' := by
  obtain ⟨c0, c1, c2, c3⟩ := h.head0
  have z2 := h.free 2
  have hq := h.que
  rw [hfr] at hq
  obtain ⟨A, n, c, rfl, hn, hsl⟩ := hq.form
  obtain ⟨A', c', hq2, hqb, hrun⟩ := hq.tail
  have hsl2 := hsl
  obtain ⟨g, off, rfl, hgl, hcell⟩ := hsl.at_ (k := 0) (by simp)
  simp at hcell
  have HZ : Hid (Ar false F (w.setCell ⟨a, 2, none⟩ (.slice A' fr.length c')) a { S with fr := fr } l P (.slice A' fr.length c')) :=
    h.setHead 2 _ (m := S.most) (f := S.flt) (P' := P) (Q' := .slice A' fr.length c') (fr := fr) rfl rfl hq2 (fun b e => h.fque b (hqb b e))
  have HO : Hid (Only F w (w.setCell ⟨a, 2, none⟩ (.slice A' fr.length c'))) := Only.set F w (p := ⟨a, 2, none⟩) h.fa _
  have hn2 : n = fr.length + 1 := by simpa using hn
  have hle := hsl.cap
  clear hq hq2 hqb hsl hsl2 hn h hfr
  subst hn2
  generalize fr.length = m at *
  have hp1 : (0 : Int) < (((m + 1 : Nat)) : Int) := by omega
  have hp2 : (0 : Int) < ((m : Int) + 1) := by omega
  go_enter Try.func64, Try.ntmps64
  go_wp2
  go_ret
  exact ⟨rfl, ⟨_, HZ.out⟩, HO.out⟩

theorem cells_ten {W : World} {s : Nat} {t : TypeId} {cs : Array Value} (h : W.heap[s]? = some (.cells cs t (0, 0))) : ∀ (j : Nat) (u : Value), cs.toList[j]? = some u → W.cell? ⟨s, j, none⟩ = some u := by
  intro j u hj
  rw [cell_of_row W s j cs t (0, 0) h]
  simpa using hj

set_option maxHeartbeats 1000000 in
theorem next_new (h : Ar false F w a S l P Q) (hfr : S.fr = []) (hl : l.length ≤ 70000) :
    Calls Try.prog 64 #[ptr a] w fun e w' => e = .returned (.int .i64 (l.length : Int)) ∧ (∃ F' P', Ar false F' w' a { S with pls := S.pls ++ [Pa.nil] } (l ++ [(Pa.nil, Vs.nil)]) P' Q ∧ ∀ b, F' b → F b ∨ w.heap.size ≤ b) ∧ Only F w w' := by
  obtain ⟨c0, c1, c2, c3⟩ := h.head0
  have hq := h.que
  rw [hfr] at hq
  obtain ⟨A, n, c, rfl, hn, hsl⟩ := hq.form
  obtain ⟨B, c', rfl⟩ := h.shapeP
  obtain rfl : n = 0 := by simpa using hn
  obtain ⟨W, hW, hbW, hB⟩ : ∃ W : World, w.alloc (.cells #[.bool false, .int .u32 0, .bool false, .bool false, .slice none 0 0, .slice none 0 0, .slice none 0 0, .slice none 0 0, .int .i64 0, .bool false] 84) = W ∧ Below w.heap.size w W ∧ W.heap[w.heap.size]? = some (.cells #[.bool false, .int .u32 0, .bool false, .bool false, .slice none 0 0, .slice none 0 0, .slice none 0 0, .slice none 0 0, .int .i64 0, .bool false] 84 (0, 0)) := ⟨_, rfl, below_new _ _, heap_alloc_new w _⟩
  have hA := h.below hbW
  obtain ⟨d0, d1, d2, d3⟩ := hA.head0
  have hrun := fun ty => hA.runPl ty w.heap.size (cells_ten hB) hl
  obtain ⟨P', w', hr0, ⟨A1, c1', rfl⟩, hha, hA2, hO2, hb2⟩ := hrun 0
  have hr : ∀ ty, (Builtin.append_ #[87, 87] ty #[.slice B l.length c', .slice (some ⟨w.heap.size, 0, none⟩) 1 1]).run Try.prog W = .ok (.slice A1 (l.length + 1) c1') w' := fun ty => hr0
  obtain ⟨e0, e1, e2, e3⟩ := hA2.head0
  have hhead : w'.heap[a]? = _ := hha.trans hA.head
  have y1 : w'.cell? ⟨a, 1, none⟩ = some (.slice B l.length c') := by rw [cell_of_row w' a _ _ _ (0, 0) hhead]; rfl
  have y2 : w'.frozen? ⟨a, 1, none⟩ = false := frozen_of_row w' a 1 _ _ hhead
  have HZ := Lib.hid hA2
  have HO : Hid (Only F w (w'.setCell ⟨a, 1, none⟩ (.slice A1 (l.length + 1) c1'))) := (Only.of_below F hbW).then hO2
  have HBB : Hid (∀ b, (F b ∨ (Value.slice A1 (l.length + 1) c1').ownBlock = some b) → F b ∨ w.heap.size ≤ b) := by
    rintro b (e | e)
    · exact .inl e
    · exact (hb2 b e).imp id (fun e => Nat.le_trans hbW.size e)
  clear hq hsl hn h hfr hA hrun hr0 hha hA2 hO2 hb2 hhead e0 e2 e3 d2 d3 d0
  generalize hL : l.length = L at *
  go_enter Try.func64, Try.ntmps64
  go_wp2_with (at_builtin; (first | rw [hW] | skip); refine Lib.wpList_append_run _ rfl _ _ _ _ rfl _ _ rfl rfl _ _ (hr _) ?_)
  go_ret
  refine ⟨?_, ⟨_, _, HZ.out, HBB.out⟩, HO.out⟩
  first | rfl | (apply ret_int; omega)
end
end Go.Proofs.Ytmnbdhngadjmiaa
