/-
  Make's work, gone through from its beginning: the whole.
-/
import Derived.Test.YtbjaojcffhkahaaWorkB6
namespace Go.Proofs.Ytbjaojcffhkahaa
open Go.ChangeShapes Go.WideShapes Go.ChangeAt Go.RowKit
set_option linter.unusedVariables false
set_option linter.unusedSimpArgs false
set_option maxRecDepth 20000

section
variable {F G FC F' FC' : Nat → Prop} {w w' wr : World} {a st ph k c n cp B0 Bp Bc Bi kk : Nat} {zs os l rs us : List Int} {wk T O L : Value} {N : Int} {A : Option Addr} {pr : List Tc}
/-- The loop's state: where work is, its answer so far, how far the program is. -/
structure LS (w : World) (F FC : Nat → Prop) (a c : Nat) (wk : Value) (pr : List Tc) (zs : List Int) (st : Nat) (N : Int) (l : List Int) (F' FC' : Nat → Prop) (kk : Nat) (rs us : List Int) (Bi i : Nat) (u : Value) (wr : World) : Prop where
  ss : SS w F FC a c wk pr zs st N l F' FC' kk rs wr
  row : Row 2 w.heap.size wr u us
  uF : ∀ b, u.ownBlock = some b → ¬ F' b ∧ ¬ FC' b
  bi : wr.heap[Bi]? = some (.cells #[.int .i64 (i : Int)] 3 (0, 0))
  bF : ¬ F' Bi ∧ ¬ FC' Bi
  bN : w.heap.size ≤ Bi
theorem LS.cell {i : Nat} {u : Value} (h : LS w F FC a c wk pr zs st N l F' FC' kk rs us Bi i u wr) : wr.cell? ⟨Bi, 0, none⟩ = some (.int .i64 (i : Int)) := by rw [cell_of_row wr Bi _ _ _ (0, 0) h.bi]; rfl
theorem ne_int3 : (3 : TypeId) ≠ 2 := by decide
/-- i is set. -/
theorem LS.set {i : Nat} {u : Value} (h : LS w F FC a c wk pr zs st N l F' FC' kk rs us Bi i u wr) (j : Nat) : LS w F FC a c wk pr zs st N l F' FC' kk rs us Bi j u (wr.setCell ⟨Bi, 0, none⟩ (.int .i64 (j : Int))) :=
  ⟨h.ss.keep (only_set wr Bi 0 _) (fun b e => by subst e; exact h.bF) (fun b e => by subst e; exact h.bN), own_set h.row ⟨_, h.bi⟩ ne_int3 _, h.uF, heap_set h.bi _, h.bF, h.bN⟩
/-- A new variable for i. -/
theorem LS.new {i : Nat} {u : Value} (h : LS w F FC a c wk pr zs st N l F' FC' kk rs us Bi i u wr) (j : Nat) : LS w F FC a c wk pr zs st N l F' FC' kk rs us wr.heap.size j u (wr.alloc (.cells #[.int .i64 (j : Int)] 3)) :=
  ⟨h.ss.keep (G := fun _ => False) (Only.of_below _ (below_new wr _)) (fun b e => e.elim) (fun b e => e.elim), h.row.alloc _, h.uF, h_new rfl, ⟨fun e => Nat.lt_irrefl _ (h.ss.lt _ (.inl e)), fun e => Nat.lt_irrefl _ (h.ss.lt _ (.inr e))⟩, h.ss.only.size⟩

theorem Row.raise {base : Nat} {el : TypeId} {v : Value} {xs : List Int} (h : Row el 0 w v xs) (hb : ∀ b, v.ownBlock = some b → base ≤ b) : Row el base w v xs := by
  obtain ⟨h1, h2⟩ := h
  refine ⟨h1, ?_⟩
  rcases h2 with h2 | ⟨g, cap, cur, e, hg, r⟩
  · exact .inl h2
  · exact .inr ⟨g, cap, cur, e, hb g (by subst e; rfl), r⟩
/-- Behind a touch. -/
theorem LS.did {i kk' : Nat} {rs' : List Int} {u : Value} {F2 FC2 : Nat → Prop} (h : LS w F FC a c wk pr zs st N l F' FC' kk rs us Bi i u wr) (h2 : SS w F FC a c wk pr zs st N l F2 FC2 kk' rs' w') (o2 : Only (fun b => F' b ∨ FC' b) wr w') (s2 : ∀ b, F2 b ∨ FC2 b → (F' b ∨ FC' b) ∨ wr.heap.size ≤ b) :
    LS w F FC a c wk pr zs st N l F2 FC2 kk' rs' us Bi i u w' := by
  have hu : ∀ b, u.ownBlock = some b → ¬ (F2 b ∨ FC2 b) := fun b e e2 => by
    rcases s2 b e2 with e3 | e3
    · exact e3.elim (h.uF b e).1 (h.uF b e).2
    · have := (World.ownsRow.lt h.row b e).2; omega
  have hbi : ¬ (F2 Bi ∨ FC2 Bi) := fun e2 => by
    rcases s2 Bi e2 with e3 | e3
    · exact e3.elim h.bF.1 h.bF.2
    · have := (Array.getElem?_eq_some_iff.1 h.bi).1; omega
  exact ⟨h2, own_at h.row fun b e => o2.block b (World.ownsRow.lt h.row b e).2 (fun g => g.elim (h.uF b e).1 (h.uF b e).2), fun b e => ⟨fun g => hu b e (.inl g), fun g => hu b e (.inr g)⟩, (o2.block Bi (Array.getElem?_eq_some_iff.1 h.bi).1 (fun g => g.elim h.bF.1 h.bF.2)).trans h.bi, ⟨fun g => hbi (.inl g), fun g => hbi (.inr g)⟩, h.bN⟩
theorem LS.alloc {i : Nat} {u : Value} (h : LS w F FC a c wk pr zs st N l F' FC' kk rs us Bi i u wr) (o : Obj) : LS w F FC a c wk pr zs st N l F' FC' kk rs us Bi i u (wr.alloc o) :=
  ⟨h.ss.keep (G := fun _ => False) (Only.of_below _ (below_new wr _)) (fun b e => e.elim) (fun b e => e.elim), h.row.alloc _, h.uF, h_old h.bi, h.bF, h.bN⟩
/-- The answer, one more. -/
theorem LS.push {i : Nat} {u u' : Value} {ms : List Int} (h : LS w F FC a c wk pr zs st N l F' FC' kk rs us Bi i u wr) (hr : Row 2 0 w' u' (us ++ ms)) (hg : wr.grownBy w' u.ownBlock) (hl : ∀ b, u'.ownBlock = some b → u.ownBlock = some b ∨ wr.heap.size ≤ b) :
    LS w F FC a c wk pr zs st N l F' FC' kk rs (us ++ ms) Bi i u' w' := by
  have hb : ¬ u.ownBlock = some Bi := fun e => ne_int3 ((show Ty wr Bi 3 from ⟨_, h.bi⟩).one (own_ty h.row e))
  refine ⟨h.ss.keep (G := fun b => u.ownBlock = some b) (Only.grown _ hg fun b e => e) (fun b e => h.uF b e) (fun b e => (World.ownsRow.lt h.row b e).1), hr.raise fun b e => ?_, fun b e => ?_, (hg.block Bi (Array.getElem?_eq_some_iff.1 h.bi).1 (fun e => hb e.symm)).trans h.bi, h.bF, h.bN⟩
  · rcases hl b e with e2 | e2
    · exact (World.ownsRow.lt h.row b e2).1
    · exact Nat.le_trans h.ss.only.size e2
  · rcases hl b e with e2 | e2
    · exact h.uF b e2
    · exact ⟨fun g => by have := h.ss.lt b (.inl g); omega, fun g => by have := h.ss.lt b (.inr g); omega⟩

set_option maxHeartbeats 4000000 in
theorem work_walk (h : Th F w a wk zs st (.slice none 0 0) [] 1 0 T) (hst : st = zs.length) (hlive : zs = [] ∨ pos zs < n) (hzs : zs.length ≤ 800) (hce : Ce FC w c N l L) (hl : l.length ≤ 10000) (hpg : Pg B0 w A n pr) (hc : w.cell? ⟨Bc, 0, none⟩ = some (ptr c)) (hp : w.cell? ⟨Bp, 0, none⟩ = some (.slice A n cp)) (hn : n ≤ 800)
    (hd : ∀ b, F b → ¬ FC b) (f1 : ¬ FC Bc) (f2 : ¬ FC Bp) (g1 : ¬ F Bc) (g2 : ¬ F Bp) (f4 : ∀ x, FC x → B0 ≤ x) (g4 : ∀ x, F x → B0 ≤ x) (hB : B0 ≤ w.heap.size) :
    Calls Try.prog 33 #[ptr a, ptr Bp, ptr Bc] w (WEnd a wk (fun F' ws zs' st' w2 => ws = zs' ∧ n ≤ pos zs' ∧ Aft w F FC c pr zs N l F' zs' st' w2) (fun F' zs' st' w2 => pos zs' < n ∧ Aft w F FC c pr zs N l F' zs' st' w2) (fun b => F b ∨ FC b) w) := by
  have hmf := mk_fn
  have H0 : Hid (LS w F FC a c wk pr zs st N l F FC 0 [] [] w.heap.size 0 (.slice none 0 0) (w.alloc (.cells #[.int .i64 0] 3))) :=
    ⟨⟨⟨T, zs, st, 1, N, l, L, h.below (below_new w _), hce.below (below_new w _), .inl ⟨rfl, rfl, rfl, rfl, rfl, Nat.zero_le _, by simp⟩⟩, hd, fun b e => .inl e, fun b e => .inl e, Only.of_below _ (below_new w _), fun b e => by
      have h1 : b < w.heap.size := e.elim (h.lt b) (hce.lt b)
      simp; omega⟩, Row.nil _ _ _, fun b e => (by cases e), h_new rfl, ⟨fun e => Nat.lt_irrefl _ (h.lt _ e), fun e => Nat.lt_irrefl _ (hce.lt _ e)⟩, Nat.le_refl _⟩
  have lBc : Bc < w.heap.size := World.block_lt_of_cell? w _ hc
  have lBp : Bp < w.heap.size := World.block_lt_of_cell? w _ hp
  have HPG := Lib.hid hpg
  have HBC := Lib.hid hc
  have HBP := Lib.hid hp
  have HD : Hid ((∀ b, F b → ¬ FC b) ∧ ¬ FC Bc ∧ ¬ FC Bp ∧ ¬ F Bc ∧ ¬ F Bp ∧ (∀ x, FC x → B0 ≤ x) ∧ (∀ x, F x → B0 ≤ x)) := ⟨hd, f1, f2, g1, g2, f4, g4⟩
  have HLV := Lib.hid hlive
  have HST := Lib.hid hst
  clear h hce hpg hc hp hd f1 f2 g1 g2 f4 g4 hlive hst
  go_enter Try.func33, Try.ntmps33
  go_wp2
  go_loopg [5, 6] (n + 2) (fun gk u p wr => ∃ (Bi k i : Nat) (rs : List Int) (F' FC' : Nat → Prop), p = ptr Bi ∧ gk + k = n + 2 ∧ Hid (i = pos rs ∧ k = rs.length ∧ LS w F FC a c wk pr zs st N l F' FC' k rs rs Bi i u wr))
  case atStart => exact ⟨w.heap.size, 0, 0, [], F, FC, rfl, rfl, ⟨rfl, rfl, H0.out⟩⟩
  case round =>
    clear H0
    obtain ⟨Bi, k, i, rs, F', FC', rfl, hgk, HL⟩ := hrel
    obtain ⟨hi, hkl, LL⟩ := HL.out
    obtain ⟨hd, f1, f2, g1, g2, f4, g4⟩ := HD.out
    have hBi := LL.cell
    have oG : ∀ b, F' b ∨ FC' b → B0 ≤ b := fun b e => by
      rcases e with e | e
      · rcases LL.ss.newF b e with e2 | e2
        · exact g4 b e2
        · omega
      · rcases LL.ss.newC b e with e2 | e2
        · exact f4 b e2
        · omega
    have n1 : ¬ FC' Bc := fun e => (LL.ss.newC _ e).elim f1 (by omega)
    have n2 : ¬ FC' Bp := fun e => (LL.ss.newC _ e).elim f2 (by omega)
    have n3 : ¬ F' Bc := fun e => (LL.ss.newF _ e).elim g1 (by omega)
    have n4 : ¬ F' Bp := fun e => (LL.ss.newF _ e).elim g2 (by omega)
    have qc := only_read LL.ss.only (fun e => e.elim g1 f1) HBC.out
    have qp := only_read LL.ss.only (fun e => e.elim g2 f2) HBP.out
    have pg := HPG.out.only LL.ss.only (fun b e => e.elim (g4 b) (f4 b))
    obtain ⟨Au, nu, cu, rfl⟩ := LL.row.shape
    by_cases hlt : i < n
    · have hdo := do_make LL.ss HST.out hzs hl pg qc qp (by rw [← hi]; exact hBi) (by omega) (by omega) n1 n2 LL.bF.2 n3 n4 LL.bF.1 (fun x e => oG x (.inr e)) (fun x e => oG x (.inl e))
      have i2 : (i : Int) < (n : Int) := by omega
      have HLL := Lib.hid LL
      have HI := Lib.hid hi
      have HK := Lib.hid hkl
      clear LL hi hkl oG n1 n2 n3 n4 hd f1 f2 g1 g2 f4 g4 pg HL qc
      go_wp2_with fail
      refine hdo.mono ?_
      rintro e w2 (⟨z, F2, FC2, rfl, h2, o2, s2⟩ | ⟨rfl, T', h2, h3, h4⟩)
      · clear hdo
        have L2 := HLL.out.did h2 o2 s2
        have hki : k ≤ i := by have h1 := pos_len rs; have h2 := HI.out; have h3 := HK.out; omega
        have hlr : rs.length ≤ 900 := by have h1 := pos_len rs; have h2 := HI.out; omega
        clear h2 o2 s2 hBi qp HLL
        obtain ⟨W3, s, hW3, hs, L3, e3⟩ : ∃ (W3 : World) (s : Nat), w2.alloc (.cells #[.int .i64 z] 2) = W3 ∧ w2.heap.size = s ∧ LS w F FC a c wk pr zs st N l F2 FC2 (k + 1) (rs ++ [z]) rs Bi i (.slice Au nu cu) W3 ∧ W3.cell? ⟨s, 0, none⟩ = some (.int .i64 z) := ⟨_, _, rfl, rfl, L2.alloc _, c_new rfl rfl⟩
        obtain ⟨A', m', n', W4, hrun, r4, g4, l4⟩ := run_pushS (L3.row.lower (Nat.zero_le _)) (sl_one e3) (by simp; omega) (by simp)
        have L4 := L3.push r4 g4 l4
        have b4 := L4.cell
        have fz := frozen_of_row W4 Bi 0 _ _ L4.bi
        have HL4 := Lib.hid L4
        clear L2 L3 L4 r4 g4 l4 e3
        by_cases hz : z.tmod 2 = 0
        · have hz2 : (z.tmod 2 == 0) = true := by simp [hz]
          go_wp2_with (at_builtin; refine Lib.wpList_append_run _ rfl _ _ _ _ rfl _ _ rfl rfl _ _ hrun ?_)
          go_roundg (gk - 1)
          case measure => omega
          case rel => exact ⟨_, k + 1, i + 1, rs ++ [z], F2, FC2, rfl, by omega, ⟨by rw [pos_snoc, if_pos hz, HI.out], by simp [HK.out], HL4.out.new (i + 1)⟩⟩
        · have hz2 : (z.tmod 2 == 0) = false := by simp [hz]
          go_wp2_with (at_builtin; refine Lib.wpList_append_run _ rfl _ _ _ _ rfl _ _ rfl rfl _ _ hrun ?_)
          go_roundg (gk - 1)
          case measure => omega
          case rel => exact ⟨W4.heap.size, k + 1, i + 2, rs ++ [z], F2, FC2, rfl, by omega, ⟨by rw [pos_snoc, if_neg hz, HI.out], by simp [HK.out], by
            have h5 := (HL4.out.set (i + 1)).new (i + 2)
            rw [World.size_setCell] at h5
            exact h5⟩⟩
      · clear hdo
        refine ⟨rfl, h4.only, .inr ⟨F', T', _, _, _, rfl, h2, h3, h4⟩⟩
    · have hle : n ≤ pos rs := by omega
      have i2 : ¬ (i : Int) < (n : Int) := by omega
      have hsl := LL.row.sl
      have HE : Hid (WEnd a wk (fun F' ws zs' st' w2 => ws = zs' ∧ n ≤ pos zs' ∧ Aft w F FC c pr zs N l F' zs' st' w2) (fun F' zs' st' w2 => pos zs' < n ∧ Aft w F FC c pr zs N l F' zs' st' w2) (fun b => F b ∨ FC b) w (.returned (.slice Au nu cu)) wr) := by
        refine ⟨LL.ss.only, .inl ?_⟩
        obtain ⟨T', zs', st', ph, N', l', L', h1, h2, ⟨rfl, rfl, rfl, rfl, rfl, hk, rfl⟩ | ⟨rfl, rfl, rfl, rfl, rfl, t, ht, rfl, rfl⟩⟩ := LL.ss.th
        · have hz : zs' = [] := by
            rcases HLV.out with e | e
            · exact e
            · have := pos_take zs' k; omega
          subst hz
          have hnn : nxt pr [] N' l' = ([], N', l') := nxt_none (by
            have e0 : pos (([] : List Int).take k) = 0 := by simp [pos]
            have e1 : pos ([] : List Int) = 0 := rfl
            have := pg.len
            rw [e0] at hle
            omega)
          refine ⟨F', T', [], st', k, 1, Au, nu, cu, _, rfl, hsl, by simp, by omega, by omega, h1, by simp, by simpa using hle, ⟨HST.out, by rw [hnn], ⟨FC', L', by rw [hnn]; exact h2, LL.ss.dis, LL.ss.newC⟩, LL.ss.newF, LL.ss.only⟩⟩
        · refine ⟨F', T', _, _, _, 3, Au, nu, cu, _, rfl, hsl, by simp; omega, by omega, by omega, h1, rfl, hle, ⟨by simp [HST.out], by rw [nxt_some ht], ⟨FC', L', by rw [nxt_some ht]; exact h2, LL.ss.dis, LL.ss.newC⟩, LL.ss.newF, LL.ss.only⟩⟩
      clear LL hsl pg oG hd f1 f2 g1 g2 f4 g4 n1 n2 n3 n4 hi hkl HL qc
      go_wp2
      go_ret
      exact HE.out
end
end Go.Proofs.Ytbjaojcffhkahaa
