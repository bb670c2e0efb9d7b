/-
  What an arena's memory is behind a store into a place, into a way, behind a place or a freed number that is put in.
-/
import Derived.Test.YtmnbdhngadjmiaaAr1
namespace Go.Proofs.Ytmnbdhngadjmiaa
open Go.RowKit
set_option linter.unusedVariables false
set_option maxRecDepth 20000

section
variable {w : World} {e : TypeId} {size : Nat}
end

theorem info_i : (Try.prog.info? 3).map (fun i => (i.zero, i.size, i.bytes)) = some (some (.int .i64 0), 1, 8) := by kernel_rfl
theorem under_is : Try.prog.underlying 88 = some (.slice 3) := Try.underlying88
theorem rowI : RowT 88 3 := ⟨Try.underlying88, by kernel_rfl, by kernel_rfl, fun W => by kernel_rfl⟩

theorem Qn.of_own {w : World} {v : Value} {fr : List Nat} (h : w.ownsRow 0 3 1 v fr.length (fr.map fun (z : Nat) => .int .i64 (z : Int))) : Qn w v fr := by
  have hl := h
  rcases h.2 with ⟨rfl, h0⟩ | ⟨g, cap, cur, rfl, _, hg, h1, h2, h3, h4⟩
  · exact .inl ⟨rfl, List.eq_nil_of_length_eq_zero h0⟩
  · refine .inr ⟨g, 0, cap, cur, rfl, hg, h1, by omega, fun i z hz => ?_⟩
    have hi : i < fr.length := (List.getElem?_eq_some_iff.1 hz).1
    have := World.ownsRow.cellAt hl i (by omega)
    rw [cell_of_row w g i cur _ (0, 0) hg, List.getElem?_map, hz] at this
    simpa using this

/-- 'append(freed, z)'. -/
theorem Qn.push {w : World} {v : Value} {fr : List Nat} (h : Qn w v fr) (ty : TypeId) (s z : Nat) (hs : w.cell? ⟨s, 0, none⟩ = some (.int .i64 (z : Int))) (hl : fr.length ≤ 100000) :
    ∃ v' w', (Builtin.append_ #[88, 88] ty #[v, .slice (some ⟨s, 0, none⟩) 1 1]).run Try.prog w = .ok v' w' ∧ Qn w' v' (fr ++ [z]) ∧ w.grownBy w' v.ownBlock ∧ ∀ b, v'.ownBlock = some b → v.ownBlock = some b ∨ w.heap.size ≤ b := by
  obtain ⟨i0, hi0, hz0, hz1, hz2⟩ := info_parts info_i
  have hnews : ∀ (j : Nat) (u : Value), [Value.int .i64 (z : Int)][j]? = some u → w.cell? ((⟨s, 0, none⟩ : Addr).add j) = some u := by
    intro j u hj
    match j, hj with
    | 0, hj => simp at hj; subst hj; simpa [Addr.add] using hs
  have hone : ∀ u ∈ [Value.int .i64 (z : Int)], u.oneCell' = true := by intro u hu; simp at hu; subst hu; rfl
  rcases h with ⟨rfl, rfl⟩ | ⟨g, off, c, cur, rfl, hg, h2, h3, h4⟩
  · obtain ⟨v', w', hr, ho, hgr, hb⟩ := run_push (w := w) 88 ty 3 i0 _ 1 8 under_is hi0 hz0 hz1 hz2 rfl (by omega) (.slice none 0 0) 0 [] (World.ownsRow_nil _ _ _ _) ⟨s, 0, none⟩ 1 1 [.int .i64 (z : Int)] rfl hnews hone (by unfold maxLen; omega) (by omega)
    exact ⟨v', w', hr, Qn.of_own (fr := [z]) (by simpa using ho), hgr, hb⟩
  · by_cases hroom : fr.length + 1 ≤ c
    · have hcell : ∀ j, j < [Value.int .i64 (z : Int)].length → (w.cell? ⟨g, off + fr.length * i0.size + j, none⟩).isSome = true := by
        intro j hj
        simp at hj
        subst hj
        rw [hz1, Nat.mul_one, cell_of_row w g _ cur _ (0, 0) hg]
        simp
        omega
      have hr := run_append_room_src (P := Try.prog) (w := w) 88 88 ty 3 i0 under_is hi0 g off fr.length c (.slice (some ⟨s, 0, none⟩) 1 1) 1 [.int .i64 (z : Int)] (Src.ofSlice w under_is ⟨s, 0, none⟩ 1 1 _ (by rw [hz1]; rfl) hnews hone) hroom hcell (fun j _ => frozen_of_row w g _ _ _ hg)
      refine ⟨_, _, hr, .inr ⟨g, off, c, cur.setIfInBounds (off + fr.length) (.int .i64 (z : Int)), by simp, ?_, by simpa using hroom, by simpa using h3, fun i y hy => ?_⟩, ?_, fun b hb => .inl hb⟩
      · simp only [World.setCells, hz1, Nat.mul_one]
        exact heap_setCell_same w g _ _ _ _ hg
      · rw [Array.getElem?_setIfInBounds]
        by_cases hi : i < fr.length
        · rw [if_neg (by omega)]
          rw [List.getElem?_append_left hi] at hy
          exact h4 i y hy
        · rw [List.getElem?_append_right (by omega)] at hy
          have : i - fr.length = 0 := by
            have := (List.getElem?_eq_some_iff.1 hy).1
            simp at this; omega
          rw [this] at hy
          simp at hy
          subst hy
          rw [if_pos (by omega), if_pos (by omega)]
      · simp only [World.setCells, hz1, Nat.mul_one]
        exact grown_set w _ _
    · have holds : ∀ (j : Nat) (u : Value), (fr.map fun (z : Nat) => Value.int .i64 (z : Int))[j]? = some u → w.cell? ((⟨g, off, none⟩ : Addr).add j) = some u := by
        intro j u hj
        rw [List.getElem?_map] at hj
        cases e : fr[j]? with
        | none => rw [e] at hj; cases hj
        | some y =>
          rw [e] at hj
          simp at hj
          subst hj
          rw [add_lit0, cell_of_row w g _ cur _ (0, 0) hg, h4 j y e]
      have hr := run_append_grow (P := Try.prog) w 88 ty 3 i0 _ under_is hi0 hz0 ⟨g, off, none⟩ fr.length c (fr.map fun (z : Nat) => Value.int .i64 (z : Int)) (by rw [hz1]; simp) holds ⟨s, 0, none⟩ 1 1 [.int .i64 (z : Int)] (by rw [hz1]; rfl) hnews (by omega) (by omega) (growslice_fits (by omega) (by rw [hz2]; omega))
      refine ⟨_, _, hr, .inr ⟨w.heap.size, 0, grownCap w (fr.length + 1) c 3, _, by simp, heap_alloc_new w.drew _, by simpa using grownCap_ge w (fr.length + 1) c 3, ?_, fun i y hy => ?_⟩, ⟨rfl, rfl, rfl, by simp, fun k hk _ => Below.heap_alloc w.drew _ k hk⟩, fun b hb => ?_⟩
      · have hge := grownCap_ge w (fr.length + 1) c 3
        simp only [Array.size_append, List.size_toArray, List.length_map, size_zeroCells, show (Value.int .i64 0).cells.size = 1 from rfl, List.length_cons, List.length_nil]
        omega
      · have hi := (List.getElem?_eq_some_iff.1 hy).1
        simp at hi
        rw [Nat.zero_add, Array.getElem?_append_left (by simp; omega)]
        have e : (List.map (fun (z : Nat) => Value.int .i64 (z : Int)) fr).toArray ++ [Value.int .i64 (z : Int)].toArray = ((fr ++ [z]).map fun (z : Nat) => Value.int .i64 (z : Int)).toArray := by simp
        rw [e, List.getElem?_toArray, List.getElem?_map, hy]
        rfl
      · simp [Value.ownBlock] at hb
        exact .inr (by omega)

/-- 'freed[1:]'. -/
theorem Qn.tail {w : World} {A : Option Addr} {n c : Nat} {z : Nat} {fr : List Nat} (h : Qn w (.slice A n c) (z :: fr)) :
    ∃ A' c', Qn w (.slice A' fr.length c') fr ∧ (∀ b, (Value.slice A' fr.length c').ownBlock = some b → (Value.slice A n c).ownBlock = some b) ∧ ∀ W : World, (Instr.slice 88 (.slice A n c) (some (.int .i64 1)) none none).run Try.prog W = .ok (.slice A' fr.length c') W := by
  rcases h with ⟨_, h0⟩ | ⟨g, off, c2, cur, e, hg, h2, h3, h4⟩
  · cases h0
  · injection e with e1 e2 e3
    subst e1 e2 e3
    have hrun : ∀ W : World, (Instr.slice 88 (.slice (some ⟨g, off, none⟩) (z :: fr).length c) (some (.int .i64 1)) none none).run Try.prog W = .ok (.slice (if c = 1 then some ⟨g, off, none⟩ else some ⟨g, off + 1, none⟩) fr.length (c - 1)) W := by
      intro W
      have := run_slice_l (P := Try.prog) (t := 88) W (some ⟨g, off, none⟩) (z :: fr).length c rowI.under2 .i64 1 (by omega) (by simp; omega)
      rw [rowI.elem W] at this
      rw [this]
      simp [Result.andThen, sliced, add_lit0]
    refine ⟨_, _, ?_, ?_, hrun⟩
    · by_cases hc : c = 1
      · have hfr : fr = [] := List.eq_nil_of_length_eq_zero (by simp at h2; omega)
        subst hfr
        rw [if_pos hc]
        exact .inr ⟨g, off, c - 1, cur, rfl, hg, by simp, by omega, fun i y hy => by simp at hy⟩
      · rw [if_neg hc]
        refine .inr ⟨g, off + 1, c - 1, cur, rfl, hg, by simp at h2; omega, by simp at h2; omega, fun i y hy => ?_⟩
        have := h4 (i + 1) y (by simpa using hy)
        rw [show off + 1 + i = off + (i + 1) from by omega]
        exact this
    · intro b hb
      split at hb <;> simpa [Value.ownBlock] using hb

theorem rowOf_split (d : Bool) (l : List (Pa × Vs)) (i : Nat) (x : Pa × Vs) (h : l[i]? = some x) : ∃ A B, A.length = i * 10 ∧ rowOf d l = A ++ (cellsOf d x ++ B) ∧ ∀ y, rowOf d (l.set i y) = A ++ (cellsOf d y ++ B) := by
  have hl : i < l.length := (List.getElem?_eq_some_iff.1 h).1
  refine ⟨rowOf d (l.take i), rowOf d (l.drop (i + 1)), by rw [rowOf_length, List.length_take]; omega, ?_, fun y => ?_⟩
  · have e : l = l.take i ++ (x :: l.drop (i + 1)) := by
      have e2 : l[i] = x := (List.getElem?_eq_some_iff.1 h).2
      rw [← e2, ← List.drop_eq_getElem_cons hl, List.take_append_drop]
    conv => lhs; rw [e]
    rw [rowOf_append]; rfl
  · rw [List.set_eq_take_append_cons_drop, if_pos hl, rowOf_append]; rfl
section
variable {d : Bool} {F G : Nat → Prop} {w w' : World} {a : Nat} {S : As} {l : List (Pa × Vs)} {P Q : Value} {i : Nat} {x y : Pa × Vs}
/-- A place's cells are others now. -/
theorem Ar.setPl (h : Ar d F w a S l P Q) (hi : l[i]? = some x) (hrow : w'.ownsRow 0 (plT d) 10 P l.length (rowOf d (l.set i y))) (hg : w.grownBy w' P.ownBlock) (hFG : ∀ b, F b → G b) (hGl : ∀ b, G b → b < w.heap.size) (hy : PaM w G y)
    (hs1 : ∀ b, y.2.wv.ownBlock = some b → (x.2.wv.ownBlock = some b ∧ y.2.zv = x.2.zv) ∨ (¬ F b ∧ y.2.zv.ownBlock ≠ some b)) (hs2 : ∀ b, y.2.zv.ownBlock = some b → x.2.zv.ownBlock = some b ∨ ¬ F b) : Ar d G w' a { S with pls := S.pls.set i y.1 } (l.set i y) P Q := by
  obtain ⟨g, c, hP, hgl, hFg, hty, _⟩ := h.formP hi
  obtain ⟨n1, n2, n3, n4, n5⟩ := plT_ne d
  have hPb : P.ownBlock = some g := by rw [hP]; rfl
  rw [hPb] at hg
  have hil : i < l.length := (List.getElem?_eq_some_iff.1 hi).1
  have ho : ∀ b t, Ty w b t → plT d ≠ t → b < w.heap.size → w'.heap[b]? = w.heap[b]? := fun b t ht hne hb => hg.block b hb (fun e => by injection e with e; subst e; exact hne (hty.one ht))
  have hmem : ∀ z, PaM w G z → PaM w' G z := fun z hz => hz.keep fun b e => hg.block b (hGl b (hz.own b e)) (fun eb => by injection eb with eb; subst eb; exact hz.not hty n3 n4 n5 e)
  refine ⟨fun b hb => Nat.lt_of_lt_of_le (hGl b hb) hg.size, (ho a _ h.tyA n1 h.lta).trans h.head, hFG a h.fa, ?_, by rw [List.length_set]; exact hrow, fun b e => hFG b (h.frow b e), h.que.at_ fun b e => ho b _ (h.que.ty e) n2 (h.lt b (h.fque b e)), fun b e => hFG b (h.fque b e), fun z hz => ?_, ?_⟩
  · rw [List.map_set, ← h.pls]
  · rcases List.mem_or_eq_of_mem_set hz with hz | rfl
    · exact hmem z ((h.mem z hz).mono hFG)
    · exact hmem _ hy
  · intro j k u v g' hj hk hw
    rw [List.getElem?_set] at hj hk
    by_cases e1 : i = j
    · subst e1
      rw [if_pos rfl, if_pos hil] at hj
      injection hj with hj; subst hj
      by_cases e2 : i = k
      · subst e2
        rw [if_pos rfl, if_pos hil] at hk
        injection hk with hk; subst hk
        refine ⟨?_, fun e => absurd rfl e⟩
        rcases hs1 g' hw with ⟨h1, h2⟩ | ⟨_, h2⟩
        · rw [h2]; exact (h.sep i i x x g' hi hi h1).1
        · exact h2
      · rw [if_neg e2] at hk
        rcases hs1 g' hw with ⟨h1, h2⟩ | ⟨h1, _⟩
        · have := h.sep i k x v g' hi hk h1
          exact ⟨this.1, fun _ => this.2 e2⟩
        · have hm := h.mem v (List.mem_of_getElem? hk)
          exact ⟨fun e => h1 (hm.own g' (.inr (.inr (.inl e)))), fun _ e => h1 (hm.own g' (.inr (.inr (.inr e))))⟩
    · rw [if_neg e1] at hj
      have hFg' : F g' := (h.mem u (List.mem_of_getElem? hj)).own g' (.inr (.inr (.inr hw)))
      by_cases e2 : i = k
      · subst e2
        rw [if_pos rfl, if_pos hil] at hk
        injection hk with hk; subst hk
        have := h.sep j i u x g' hj hi hw
        refine ⟨fun e => ?_, fun _ e => ?_⟩
        · rcases hs2 g' e with h1 | h1
          · exact this.1 h1
          · exact h1 hFg'
        · rcases hs1 g' e with ⟨h1, _⟩ | ⟨h1, _⟩
          · exact this.2 (fun e => e1 e.symm) h1
          · exact h1 hFg'
      · rw [if_neg e2] at hk
        exact h.sep j k u v g' hj hk hw

/-- One cell of a place is written: nothing that its rows hang on. -/
theorem Ar.setCell1 (h : Ar d F w a S l P Q) (hi : l[i]? = some x) {g c : Nat} (hP : P = .slice (some ⟨g, 0, none⟩) l.length c) {j : Nat} (hj : j < 10) (u : Value) (p' : Pa) (hc : cellsOf d (p', x.2) = (cellsOf d x).set j u) (hnd : p'.nd = x.1.nd) (hws : p'.ws = x.1.ws) :
    Ar d F (w.setCell ⟨g, i * 10 + j, none⟩ u) a { S with pls := S.pls.set i p' } (l.set i (p', x.2)) P Q := by
  have hm := h.mem x (List.mem_of_getElem? hi)
  have hr := h.row
  subst hP
  have hst := World.ownsRow.stored hr (i * 10 + j) u
  rw [rowOf_set1 d hi hj u hc] at hst
  exact h.setPl hi (y := (p', x.2)) hst.1 hst.2 (fun _ hb => hb) h.lt ⟨by rw [hnd]; exact hm.ps, by rw [hnd]; exact hm.ks, by rw [hnd]; exact hm.zs, by rw [hws]; exact hm.ws, hm.own, by rw [hnd]; exact hm.small, by rw [hws]; exact hm.few⟩ (fun b e => .inl ⟨e, rfl⟩) (fun b e => .inl e)

theorem own_mid {g n c j : Nat} {t : TypeId} {A M B : List Value} (hr : w.ownsRow 0 t 10 (.slice (some ⟨g, 0, none⟩) n c) n (A ++ (M ++ B))) (hA : A.length = i * 10) (hj : j < M.length) (u : Value) :
    (w.setCell ⟨g, i * 10 + j, none⟩ u).ownsRow 0 t 10 (.slice (some ⟨g, 0, none⟩) n c) n (A ++ (M.set j u ++ B)) := by
  have := (World.ownsRow.stored hr (i * 10 + j) u).1
  rwa [set_mid hA hj] at this
/-- All cells of a place are written. -/
theorem own_ten {g n c : Nat} {t : TypeId} (hr : w.ownsRow 0 t 10 (.slice (some ⟨g, 0, none⟩) n c) n (rowOf d l)) (hi : l[i]? = some x) (u0 u1 u2 u3 u4 u5 u6 u7 u8 u9 : Value) (hy : cellsOf d y = [u0, u1, u2, u3, u4, u5, u6, u7, u8, u9]) :
    ((((((((((w.setCell ⟨g, i * 10, none⟩ u0).setCell ⟨g, i * 10 + 1, none⟩ u1).setCell ⟨g, i * 10 + 2, none⟩ u2).setCell ⟨g, i * 10 + 3, none⟩ u3).setCell ⟨g, i * 10 + 4, none⟩ u4).setCell ⟨g, i * 10 + 5, none⟩ u5).setCell ⟨g, i * 10 + 6, none⟩ u6).setCell ⟨g, i * 10 + 7, none⟩ u7).setCell ⟨g, i * 10 + 8, none⟩ u8).setCell ⟨g, i * 10 + 9, none⟩ u9).ownsRow 0 t 10 (.slice (some ⟨g, 0, none⟩) n c) n (rowOf d (l.set i y)) := by
  obtain ⟨A, B, hA, h1, h2⟩ := rowOf_split d l i x hi
  rw [h1] at hr
  rw [h2 y, hy]
  have hx := cellsOf_length d x
  generalize cellsOf d x = M at *
  match M, hx with
  | [m0, m1, m2, m3, m4, m5, m6, m7, m8, m9], _ =>
    have q0 : (w.setCell ⟨g, i * 10, none⟩ u0).ownsRow 0 t 10 (.slice (some ⟨g, 0, none⟩) n c) n (A ++ ([u0, m1, m2, m3, m4, m5, m6, m7, m8, m9] ++ B)) := own_mid hr hA (j := 0) (by simp) u0
    generalize w.setCell ⟨g, i * 10, none⟩ u0 = w1 at q0 ⊢
    clear hr
    have q1 : (w1.setCell ⟨g, i * 10 + 1, none⟩ u1).ownsRow 0 t 10 (.slice (some ⟨g, 0, none⟩) n c) n (A ++ ([u0, u1, m2, m3, m4, m5, m6, m7, m8, m9] ++ B)) := own_mid q0 hA (j := 1) (by simp) u1
    generalize w1.setCell ⟨g, i * 10 + 1, none⟩ u1 = w2 at q1 ⊢
    clear q0
    have q2 : (w2.setCell ⟨g, i * 10 + 2, none⟩ u2).ownsRow 0 t 10 (.slice (some ⟨g, 0, none⟩) n c) n (A ++ ([u0, u1, u2, m3, m4, m5, m6, m7, m8, m9] ++ B)) := own_mid q1 hA (j := 2) (by simp) u2
    generalize w2.setCell ⟨g, i * 10 + 2, none⟩ u2 = w3 at q2 ⊢
    clear q1
    have q3 : (w3.setCell ⟨g, i * 10 + 3, none⟩ u3).ownsRow 0 t 10 (.slice (some ⟨g, 0, none⟩) n c) n (A ++ ([u0, u1, u2, u3, m4, m5, m6, m7, m8, m9] ++ B)) := own_mid q2 hA (j := 3) (by simp) u3
    generalize w3.setCell ⟨g, i * 10 + 3, none⟩ u3 = w4 at q3 ⊢
    clear q2
    have q4 : (w4.setCell ⟨g, i * 10 + 4, none⟩ u4).ownsRow 0 t 10 (.slice (some ⟨g, 0, none⟩) n c) n (A ++ ([u0, u1, u2, u3, u4, m5, m6, m7, m8, m9] ++ B)) := own_mid q3 hA (j := 4) (by simp) u4
    generalize w4.setCell ⟨g, i * 10 + 4, none⟩ u4 = w5 at q4 ⊢
    clear q3
    have q5 : (w5.setCell ⟨g, i * 10 + 5, none⟩ u5).ownsRow 0 t 10 (.slice (some ⟨g, 0, none⟩) n c) n (A ++ ([u0, u1, u2, u3, u4, u5, m6, m7, m8, m9] ++ B)) := own_mid q4 hA (j := 5) (by simp) u5
    generalize w5.setCell ⟨g, i * 10 + 5, none⟩ u5 = w6 at q5 ⊢
    clear q4
    have q6 : (w6.setCell ⟨g, i * 10 + 6, none⟩ u6).ownsRow 0 t 10 (.slice (some ⟨g, 0, none⟩) n c) n (A ++ ([u0, u1, u2, u3, u4, u5, u6, m7, m8, m9] ++ B)) := own_mid q5 hA (j := 6) (by simp) u6
    generalize w6.setCell ⟨g, i * 10 + 6, none⟩ u6 = w7 at q6 ⊢
    clear q5
    have q7 : (w7.setCell ⟨g, i * 10 + 7, none⟩ u7).ownsRow 0 t 10 (.slice (some ⟨g, 0, none⟩) n c) n (A ++ ([u0, u1, u2, u3, u4, u5, u6, u7, m8, m9] ++ B)) := own_mid q6 hA (j := 7) (by simp) u7
    generalize w7.setCell ⟨g, i * 10 + 7, none⟩ u7 = w8 at q7 ⊢
    clear q6
    have q8 : (w8.setCell ⟨g, i * 10 + 8, none⟩ u8).ownsRow 0 t 10 (.slice (some ⟨g, 0, none⟩) n c) n (A ++ ([u0, u1, u2, u3, u4, u5, u6, u7, u8, m9] ++ B)) := own_mid q7 hA (j := 8) (by simp) u8
    generalize w8.setCell ⟨g, i * 10 + 8, none⟩ u8 = w9 at q8 ⊢
    clear q7
    have q9 : (w9.setCell ⟨g, i * 10 + 9, none⟩ u9).ownsRow 0 t 10 (.slice (some ⟨g, 0, none⟩) n c) n (A ++ ([u0, u1, u2, u3, u4, u5, u6, u7, u8, u9] ++ B)) := own_mid q8 hA (j := 9) (by simp) u9
    exact q9
theorem grown_ten (w : World) (g k : Nat) (u0 u1 u2 u3 u4 u5 u6 u7 u8 u9 : Value) : w.grownBy ((((((((((w.setCell ⟨g, k, none⟩ u0).setCell ⟨g, k + 1, none⟩ u1).setCell ⟨g, k + 2, none⟩ u2).setCell ⟨g, k + 3, none⟩ u3).setCell ⟨g, k + 4, none⟩ u4).setCell ⟨g, k + 5, none⟩ u5).setCell ⟨g, k + 6, none⟩ u6).setCell ⟨g, k + 7, none⟩ u7).setCell ⟨g, k + 8, none⟩ u8).setCell ⟨g, k + 9, none⟩ u9) (some g) :=
  grown_two (grown_two (grown_two (grown_two (grown_two (grown_two (grown_two (grown_two (grown_two (grown_set w ⟨g, k, none⟩ u0) (grown_set _ ⟨g, k + 1, none⟩ u1)) (grown_set _ ⟨g, k + 2, none⟩ u2)) (grown_set _ ⟨g, k + 3, none⟩ u3)) (grown_set _ ⟨g, k + 4, none⟩ u4)) (grown_set _ ⟨g, k + 5, none⟩ u5)) (grown_set _ ⟨g, k + 6, none⟩ u6)) (grown_set _ ⟨g, k + 7, none⟩ u7)) (grown_set _ ⟨g, k + 8, none⟩ u8)) (grown_set _ ⟨g, k + 9, none⟩ u9)

/-- A way is written. -/
theorem Ar.setWay (h : Ar d F w a S l P Q) (hi : l[i]? = some x) {k : Nat} (hk : k < x.1.ws.length) (z : Int) : ∃ g c, x.2.wv = .slice (some ⟨g, 0, none⟩) x.1.ws.length c ∧ F g ∧ g < w.heap.size ∧ w.cell? ⟨g, k, none⟩ = some (.int .i64 x.1.ws[k]) ∧ w.frozen? ⟨g, k, none⟩ = false ∧
    Ar d F (w.setCell ⟨g, k, none⟩ (.int .i64 z)) a { S with pls := S.pls.set i { x.1 with ws := x.1.ws.set k z } } (l.set i ({ x.1 with ws := x.1.ws.set k z }, x.2)) P Q := by
  have hm := h.mem x (List.mem_of_getElem? hi)
  have hil : i < l.length := (List.getElem?_eq_some_iff.1 hi).1
  obtain ⟨g, c, u, hv, _, hgl, _, hcell, hfz, hput⟩ := hm.ws.put hk
  have hcell2 : w.cell? ⟨g, k, none⟩ = some (.int .i64 x.1.ws[k]) := by
    obtain ⟨A, c2, e, s⟩ := hm.ws.form
    obtain ⟨b, off, e2, _, hc⟩ := s.at_ hk
    rw [hv] at e
    injection e with e3
    rw [e2] at e3
    injection e3 with e3
    injection e3 with e4 e5
    subst e4 e5
    rw [Nat.zero_add] at hc
    exact hc
  have hFg : F g := hm.own g (.inr (.inr (.inr (by rw [hv]; rfl))))
  have hty : Ty w g 30 := own_ty hm.ws (by rw [hv]; rfl)
  obtain ⟨n1, n2, n3, n4, n5⟩ := plT_ne d
  obtain ⟨m1, m2, m3, m4, m5⟩ := hdT_ne d
  have ho : ∀ b t, Ty w b t → 30 ≠ t → (w.setCell ⟨g, k, none⟩ (.int .i64 z)).heap[b]? = w.heap[b]? := fun b t ht hne => heap_setCell_other w ⟨g, k, none⟩ b _ (fun e => hne (hty.one (by subst e; exact ht)))
  have hrest : ∀ b, b ≠ g → (w.setCell ⟨g, k, none⟩ (.int .i64 z)).heap[b]? = w.heap[b]? := fun b hb => heap_setCell_other w ⟨g, k, none⟩ b _ hb
  refine ⟨g, c, hv, hFg, hgl, hcell2, hfz, ⟨fun b hb => by simpa using h.lt b hb, (ho a _ h.tyA (Ne.symm m5)).trans h.head, h.fa, by rw [List.map_set, ← h.pls], ?_, h.frow, h.que.at_ fun b e => ho b _ (h.que.ty e) (by decide), h.fque, fun y hy => ?_, ?_⟩⟩
  · rw [List.length_set]
    have e : rowOf d (l.set i ({ x.1 with ws := x.1.ws.set k z }, x.2)) = rowOf d l := by
      obtain ⟨A, B, _, h1, h2⟩ := rowOf_split d l i x hi
      rw [h1, h2]
      cases d <;> rfl
    rw [e]
    exact own_set h.row (p := ⟨g, k, none⟩) hty (Ne.symm n5) _
  · obtain ⟨j, hj⟩ := List.getElem?_of_mem hy
    rw [List.getElem?_set] at hj
    by_cases e1 : i = j
    · rw [if_pos e1, if_pos hil] at hj
      injection hj with hj
      subst hj
      refine ⟨own_at hm.ps fun b e => ho b _ (own_ty hm.ps e) (by decide), own_at hm.ks fun b e => ho b _ (own_ty hm.ks e) (by decide), own_at hm.zs fun b e => hrest b fun eb => ?_, (hput z).1.lower (Nat.zero_le _), hm.own, hm.small, by simpa using hm.few⟩
      subst eb
      exact (h.sep i i x x b hi hi (by rw [hv]; rfl)).1 e
    · rw [if_neg e1] at hj
      have hy2 := h.mem y (List.mem_of_getElem? hj)
      refine hy2.keep fun b e => hrest b fun eb => ?_
      subst eb
      have hsp := h.sep i j x y b hi hj (by rw [hv]; rfl)
      rcases e with e | e | e | e
      · exact absurd (hty.one (own_ty hy2.ps e)) (by decide)
      · exact absurd (hty.one (own_ty hy2.ks e)) (by decide)
      · exact hsp.1 e
      · exact hsp.2 e1 e
  · intro j k' u v g' hj hk' hw
    have e : ∀ (j : Nat) (u : Pa × Vs), (l.set i ({ x.1 with ws := x.1.ws.set k z }, x.2))[j]? = some u → ∃ u', l[j]? = some u' ∧ u'.2 = u.2 := by
      intro j u hj
      rw [List.getElem?_set] at hj
      by_cases e1 : i = j
      · rw [if_pos e1, if_pos hil] at hj
        injection hj with hj
        subst hj
        exact ⟨x, e1 ▸ hi, rfl⟩
      · rw [if_neg e1] at hj
        exact ⟨u, hj, rfl⟩
    obtain ⟨u', hu', eu⟩ := e j u hj
    obtain ⟨v', hv', ev⟩ := e k' v hk'
    rw [← ev]
    exact h.sep j k' u' v' g' hu' hv' (by rw [eu]; exact hw)
end
end Go.Proofs.Ytmnbdhngadjmiaa
