/-
  leaf's 'joined': pairs one behind the other, in a row of its own. With the law for 'copy' of pairs that it wants.
-/
import Derived.Test.YtfpnchnijfhjhaaLawFns
namespace Go.Proofs.Ytfpnchnijfhjhaa
open Go.ChangeShapes Go.WideShapes Go.ChangeAt Go.RowKit
set_option linter.unusedVariables false

section
variable {P : Program}
/-- copy of elements of two cells: nothing goes over. -/
theorem run_copy2_none (w : World) (dT sT ty elem : TypeId) (d a : Option Addr) (dLen dCap sLen sCap : Nat) (hu : P.underlying dT = some (.slice elem)) (hs : (P.info? elem).map (·.size) = some 2) (hn : Nat.min sLen dLen = 0) :
    (Builtin.copy_ #[dT, sT] ty #[.slice d dLen dCap, .slice a sLen sCap]).run P w = .ok (goInt 0) w := by
  cases hq : P.info? elem with
  | none => simp [hq] at hs
  | some i =>
    have hl : ∀ (x : Addr), (loadCells x 0).run P w = .ok #[] w := fun x => by simpa using run_loadCells_list (P := P) w x [] (by simp)
    cases d <;> cases a <;> simp [Builtin.copy_, run_underlying hu, Builtin.lenOf, Builtin.firstCells, sizeOf, typeInfo, hq, hn, storeCells, hl]

/-- copy of elements of two cells into a row that is known whole. -/
theorem run_copy2 (w : World) (dT sT ty elem : TypeId) (g o dLen dCap : Nat) (a : Addr) (sLen sCap : Nat) (cur : Array Value) (t : TypeId) (cs : List Value)
    (hu : P.underlying dT = some (.slice elem)) (hs : (P.info? elem).map (·.size) = some 2)
    (hg : w.heap[g]? = some (.cells cur t (0, 0))) (n : Nat) (hm : Nat.min sLen dLen = n) (hn : cs.length = n * 2)
    (hsrc : ∀ j v, cs[j]? = some v → w.cell? (a.add j) = some v) (hfit : o + cs.length ≤ cur.size) (h1 : ∀ v ∈ cs, v.oneCell' = true) :
    (Builtin.copy_ #[dT, sT] ty #[.slice (some ⟨g, o, none⟩) dLen dCap, .slice (some a) sLen sCap]).run P w =
      .ok (goInt n) (w.setRow g (cur.toList.take o ++ cs ++ cur.toList.drop (o + cs.length)).toArray) := by
  have hl := run_loadCells_list (P := P) w a cs hsrc
  have hst := run_storeCells_at P g o t cs 0 cur w hg (by simpa using hfit) h1
  cases hq : P.info? elem with
  | none => simp [hq] at hs
  | some i =>
    have hi : i.size = 2 := by simpa [hq] using hs
    rw [hn] at hl
    simp [Builtin.copy_, run_underlying hu, Builtin.lenOf, Builtin.firstCells, sizeOf, typeInfo, hq, hi, hm, hl, hst]
end

/-- 'copy(out[at:], p)', out a row of the call's own, p pairs that lie wherever. -/
theorem copy_pairs {ops : Array Oper} {rest : List Oper} {o : Oper} {a : Act} {Q : Exit → Act → World → Prop} {w0 w : World} (hgd : o.guard = none) (d s : Operand)
    (ho : o.op = .call { callee := .builtin .copy, args := #[d, s], argTypes := #[25, 25] })
    (dp : Option Addr) (dLen dCap : Nat) (A : Option Addr) (n c : Nat) (l : List (Int × Int)) (hd : a.eval d = .slice dp dLen dCap) (hs : a.eval s = .slice A n c) (hl : Lf w A n l)
    (G at_ : Nat) (pre_ tail_ : List Value) (hpre : pre_.length = at_ * 2) (hG : w.heap[G]? = some (.cells (pre_ ++ tail_).toArray 31 (0, 0))) (hfit : n ≤ dLen) (htail : n * 2 ≤ tail_.length)
    (hpos : 0 < n → dp = some ⟨G, at_ * 2, none⟩) (hb : Below w0.heap.size w0 w) (hGB : w0.heap.size ≤ G)
    (h : ∀ w', Hid (w'.heap[G]? = some (.cells ((pre_ ++ cellsP l) ++ tail_.drop (n * 2)).toArray 31 (0, 0))) → Below w0.heap.size w0 w' → wpList Try.prog ops Q rest (a.put o.dst (.int .i64 (n : Int))) w') :
    wpList Try.prog ops Q (o :: rest) a w := by
  refine wpList_plain hgd fun K hK => ?_
  have hmin : Nat.min n dLen = n := Nat.min_eq_left hfit
  have hn := hl.len
  by_cases h0 : n = 0
  · have hrun := run_copy2_none (P := Try.prog) w 25 25 o.type 31 dp A dLen dCap n c Try.underlying25 pair_size (by rw [hmin, h0])
    unfold Oper.wp
    simp [execOp, ho, resolve, invoke, builtin, hd, hs, hrun, Result.andThen]
    subst h0
    have e : l = [] := List.eq_nil_of_length_eq_zero hn.symm
    subst e
    exact hK _ _ (h w (show _ = _ by simpa [cellsP] using hG) hb)
  · obtain rfl := hpos (by omega)
    rcases hl.2 with rfl | ⟨b, off, rfl, hsrc⟩
    · simp at hn; omega
    · have hrun := run_copy2 (P := Try.prog) w 25 25 o.type 31 G (at_ * 2) dLen dCap ⟨b, off, none⟩ n c (pre_ ++ tail_).toArray 31 (cellsP l) Try.underlying25 pair_size hG n hmin (by rw [cellsP_length, hn])
        (fun j u hj => by
          have := hsrc j u hj
          unfold Addr.add
          split
          · rename_i e0; subst e0; exact this
          · exact this) (by rw [cellsP_length]; simp; omega) (cellsP_oneCell l)
      unfold Oper.wp
      simp [execOp, ho, resolve, invoke, builtin, hd, hs, hrun, Result.andThen]
      refine hK _ _ (h _ (show _ = _ from ?_) (below_setRow hb hGB _))
      rw [setRow_heap w G _ _ _ _ hG]
      have e1 : (pre_ ++ tail_).take (at_ * 2) = pre_ := by rw [← hpre]; simp
      have e2 : (pre_ ++ tail_).drop (at_ * 2 + (cellsP l).length) = tail_.drop (n * 2) := by rw [← hpre, List.drop_append, cellsP_length, hn]; simp
      congr 2
      simp only [List.append_assoc] at *
      rw [e1, e2]

/-- 'out[at:]' of a row of n pairs: its address under one name. -/
theorem cut_row (G N s : Nat) (hs : s ≤ N) (hN : N ≤ 100000) :
    ∃ dp : Option Addr, (s < N → dp = some ⟨G, s * 2, none⟩) ∧ ∀ W : World, (Instr.slice 25 (.slice (some ⟨G, 0, none⟩) N N) (some (.int .i64 (s : Int))) none none).run Try.prog W = .ok (.slice dp (N - s) (N - s)) W := by
  refine ⟨if N = s then some ⟨G, 0, none⟩ else (some (⟨G, 0, none⟩ : Addr)).map (·.add (s * 2)), fun h => ?_, fun W => ?_⟩
  · rw [if_neg (by omega)]
    simp only [Option.map_some, Addr.add]
    split
    · rename_i e; rw [e]
    · simp
  · rw [run_slice_l (P := Try.prog) (t := 25) _ _ _ _ Try.underlying25 .i64 (s : Int) (by omega) (by omega)]
    have hsz : (sizeOf (Try.prog.elem 25)).run Try.prog W = .ok 2 W := by kernel_rfl
    rw [hsz]
    simp [Result.andThen, sliced]

/-- Slices of pairs that lie one behind the other in block g. -/
abbrev Part := Option Addr × Nat × Nat × List (Int × Int)
def Pts (w : World) (g : Nat) (ps : List Part) : Prop := ∀ j p, ps[j]? = some p → w.cell? ⟨g, j, none⟩ = some (.slice p.1 p.2.1 p.2.2.1) ∧ Lf w p.1 p.2.1 p.2.2.2
def catL (ps : List Part) : List (Int × Int) := ps.flatMap (·.2.2.2)
theorem catL_snoc (ps : List Part) (k : Nat) (h : k < ps.length) : catL (ps.take (k + 1)) = catL (ps.take k) ++ ps[k].2.2.2 := by
  unfold catL; rw [take_snoc ps k h, List.flatMap_append]; simp
theorem catL_le (ps : List Part) (k : Nat) : (catL (ps.take k)).length ≤ (catL ps).length := by
  have : catL ps = catL (ps.take k) ++ catL (ps.drop k) := by unfold catL; rw [← List.flatMap_append, List.take_append_drop]
  rw [this, List.length_append]; omega

set_option maxHeartbeats 1000000 in
theorem joined_walk (g m c : Nat) (ps : List Part) (w : World) (h : Pts w g ps) (hm : ps.length = m) (hN : (catL ps).length ≤ 100000) (hm2 : m ≤ 1000) :
    Calls Try.prog 30 #[.slice (some ⟨g, 0, none⟩) m c] w fun e w' => ∃ v, e = .returned v ∧ Own w w' v (catL ps) := by
  obtain ⟨i0, hi0, hz0, hz1, hz2⟩ := info_parts pair_info
  have HM := Lib.hid hm
  clear hm
  go_enter Try.func30, Try.ntmps30
  go_wp2
  go_loop [3, 12] (fun s i => ∃ k : Nat, k ≤ m ∧ i = .int .i64 k ∧ s = .int .i64 ((catL (ps.take k)).length : Nat)) (fun _ i => m - (intOf i).toNat)
  case atStart => exact ⟨0, Nat.zero_le _, rfl, rfl⟩
  case round =>
    obtain ⟨k, hk, rfl, rfl⟩ := hrel
    by_cases hlt : k < m
    · have hkl : k < ps.length := by have := HM.out; omega
      obtain ⟨h1, h2⟩ := h k _ (List.getElem?_eq_getElem hkl)
      have HS : Hid ((catL (ps.take (k + 1))).length = (catL (ps.take k)).length + ps[k].2.1) := by show _ = _; rw [catL_snoc ps k hkl, List.length_append, h2.len]
      have hb1 := catL_le ps (k + 1)
      rw [HS.out] at hb1
      clear h2
      generalize ps[k] = p at *
      generalize (catL (ps.take k)).length = s at *
      obtain ⟨pA, pn, pc, pl⟩ := p
      simp only at h1 hb1 HS
      go_wp2
      go_round
      case rel => exact ⟨k + 1, by omega, by go_num, by rw [HS.out]; go_num⟩
      case measure => simp [intOf]; omega
    · have hall : ps.take k = ps := List.take_of_length_le (by have := HM.out; omega)
      rw [hall]
      clear hall
      generalize hN0 : (catL ps).length = N at *
      have HN0 := Lib.hid hN0
      clear hN0
      go_wp2_with (at_make; refine wpList_make_full _ rfl (.tmp 21) (.tmp 21) 25 rfl w.heap.size 31 i0 _ 2 Try.underlying25 hi0 hz0 hz1 .i64 .i64 _ _ N rfl rfl rfl rfl (by rw [hz2]; omega) (by unfold maxLen; omega) (Nat.le_refl _) ?_; intro w1 hown1 hg1)
      have HB : Hid (Below w.heap.size w w1) := (Below.refl _ _).grown hg1 (Nat.le_refl _) (by simp)
      have HR : Hid (∃ cur : List Value, w1.heap[w.heap.size]? = some (.cells cur.toArray 31 (0, 0)) ∧ cur.length = N * 2) := by
        rcases hown1.2 with ⟨h', _⟩ | ⟨g', cap', cur, h', _, hh, _, _, hcs, _⟩
        · simp at h'
        · simp only [Value.slice.injEq, Option.some.injEq, Addr.mk.injEq, and_true, true_and] at h'
          obtain ⟨rfl, rfl⟩ := h'
          exact ⟨cur.toList, by simpa using hh, by simpa using hcs⟩
      clear hown1 hg1
      go_loopw [7, 25] (fun s i wr => ∃ (k : Nat) (tl : List Value), k ≤ m ∧ i = .int .i64 k ∧ s = .int .i64 ((catL (ps.take k)).length : Nat) ∧ Hid (wr.heap[w.heap.size]? = some (.cells (cellsP (catL (ps.take k)) ++ tl).toArray 31 (0, 0))) ∧ Hid ((catL (ps.take k)).length * 2 + tl.length = N * 2) ∧ Below w.heap.size w wr) (fun _ i _ => m - (intOf i).toNat)
      case atStart =>
        obtain ⟨cur, hc1, hc2⟩ := HR.out
        exact ⟨0, cur, Nat.zero_le _, rfl, rfl, show _ = _ by simpa [catL, cellsP] using hc1, show _ = _ by simpa [catL] using hc2, HB.out⟩
      case round =>
        clear hk HR HB
        obtain ⟨k, tl, hk, rfl, rfl, hG, hT, hb⟩ := hrel
        by_cases hlt : k < m
        · have hkl : k < ps.length := by have := HM.out; omega
          obtain ⟨h1, h2⟩ := h k _ (List.getElem?_eq_getElem hkl)
          have hg1 : g < w.heap.size := World.block_lt_of_cell? w _ h1
          have d1 := (hb.cell (p := ⟨g, k, none⟩) hg1).trans h1
          have HS : Hid (catL (ps.take (k + 1)) = catL (ps.take k) ++ ps[k].2.2.2) := catL_snoc ps k hkl
          have hb1 := catL_le ps (k + 1)
          rw [HS.out, List.length_append, ← h2.len, HN0.out] at hb1
          have HL : Hid (Lf wr ps[k].1 ps[k].2.1 ps[k].2.2.2) := h2.below hb
          clear h2 h1
          generalize ps[k] = p at *
          have hlenP : Hid (p.2.1 = p.2.2.2.length) := HL.out.len
          obtain ⟨pA, pn, pc, pl⟩ := p
          simp only at d1 hb1 HS HL hlenP
          generalize catL (ps.take k) = s at *
          have hs1 : (s.length : Int) ≤ (N : Int) := by omega
          have hs0 : (0 : Int) ≤ (s.length : Int) := by omega
          have HT := hT.out
          have htl : pn * 2 ≤ tl.length := by omega
          clear HT
          obtain ⟨dp, hdp, hcut⟩ := cut_row w.heap.size N s.length (by omega) (by omega)
          have HD : Hid (0 < pn → dp = some ⟨w.heap.size, s.length * 2, none⟩) := fun hp0 => hdp (by omega)
          clear hdp
          go_wp2_with (with_reducible refine copy_pairs (w0 := w) rfl (.tmp 32) (.tmp 33) rfl dp (N - s.length) (N - s.length) pA pn pc pl rfl rfl HL.out w.heap.size s.length (cellsP s) tl (cellsP_length s) hG.out (by omega) htl HD.out hb (Nat.le_refl _) ?_)
          intro w2 hG2 hb2
          go_wp2
          go_roundw
          case rel => exact ⟨k + 1, tl.drop (pn * 2), by omega, by go_num, by rw [HS.out, List.length_append, ← hlenP.out]; go_num, show _ = _ by rw [HS.out, cellsP_append]; simpa using hG2.out, show _ = _ by rw [HS.out, List.length_append, ← hlenP.out, List.length_drop]; have := hT.out; omega, hb2⟩
          case measure => simp [intOf]; omega
        · have hall : ps.take k = ps := List.take_of_length_le (by have := HM.out; omega)
          rw [hall] at hG hT
          go_wp2
          go_ret
          have e : tl = [] := List.eq_nil_of_length_eq_zero (by have := hT.out; rw [HN0.out] at this; omega)
          subst e
          have hG' := hG.out
          rw [List.append_nil] at hG'
          refine ⟨.slice (some ⟨w.heap.size, 0, none⟩) N N, rfl, ⟨cellsP_length _, .inr ⟨w.heap.size, N, _, by rw [HN0.out], Nat.le_refl _, hG', by rw [HN0.out]; exact Nat.le_refl _, by unfold maxLen; omega, ?_, ?_⟩⟩, hb⟩
          · rw [List.size_toArray, cellsP_length, HN0.out]
          · rw [← cellsP_length, List.take_length]
end Go.Proofs.Ytfpnchnijfhjhaa
