/-
  ThreadAsks' work, gone through from its beginning.
-/
import Derived.Test.YtbjaojcffhkahaaAsk6
namespace Go.Proofs.Ytbjaojcffhkahaa
open Go.ChangeShapes Go.WideShapes Go.ChangeAt Go.RowKit
set_option linter.unusedVariables false
set_option linter.unusedSimpArgs false
set_option maxRecDepth 20000

/-- The places, up to k, where the flag is set. -/
def idx (l : List Bool) (k : Nat) : List Int := ((List.range k).filter (fun i => l.getD i false)).map (fun i : Nat => (i : Int))
theorem idx_succ (l : List Bool) (k : Nat) : idx l (k + 1) = if l.getD k false then idx l k ++ [(k : Int)] else idx l k := by
  have key : ∀ f : Nat → Bool, ((List.range (k + 1)).filter f).map (fun i : Nat => (i : Int)) = if f k then ((List.range k).filter f).map (fun i : Nat => (i : Int)) ++ [(k : Int)] else ((List.range k).filter f).map (fun i : Nat => (i : Int)) := by
    intro f
    rw [List.range_succ, List.filter_append, List.map_append]
    cases h : f k <;> simp [h]
  exact key (fun i => l.getD i false)
theorem idx_len (l : List Bool) (k : Nat) : (idx l k).length ≤ k := by
  unfold idx
  rw [List.length_map]
  exact Nat.le_trans (List.length_filter_le _ _) (by simp)
theorem told_at {l : List Bool} {j k : Nat} (hj : j ≤ l.length) (hk : k ≤ j) : ((l.take j).map b2i ++ [b2i (l.getD j false)]).getD k 0 = b2i (l.getD k false) := by
  rcases Nat.lt_or_ge k j with e | e
  · have h1 : k < ((l.take j).map b2i).length := by simp; omega
    simp only [List.getD]
    rw [List.getElem?_append_left h1]
    simp [List.getElem?_take, e, show k < l.length by omega]
  · have e2 : k = j := by omega
    subst e2
    have h1 : ((l.take k).map b2i).length = k := by simp; omega
    simp only [List.getD]
    rw [List.getElem?_append_right (by omega), h1]
    simp

section
variable {F G F' : Nat → Prop} {w w' wr : World} {a st Bk Bx Bo n cp B0 no : Nat} {zs : List Int} {wk T O : Value} {l : List Bool} {A : Option Addr}
/-- Behind a Step of ThreadAsks' work. -/
abbrev KRet (w : World) (F : Nat → Prop) (n Bk : Nat) (l : List Bool) (j : Nat) : RetP := fun F' ws zs' st' w2 => ws = idx l n ∧ st' = n ∧ n ≤ j + 1 ∧ Vi w2 Bk (n : Int) ∧ ∀ b, F' b → F b ∨ w.heap.size ≤ b
abbrev KWait (w : World) (F : Nat → Prop) (n Bk : Nat) (l : List Bool) (j : Nat) : WaitP := fun F' zs' st' w2 => j + 1 < n ∧ zs' = (l.take (j + 1)).map b2i ∧ st' = j + 1 ∧ Vi w2 Bk ((j : Int) + 1) ∧ ∀ b, F' b → F b ∨ w.heap.size ≤ b

set_option maxHeartbeats 4000000 in
theorem kwork {j : Nat} (h : Th F w a wk zs j (.slice none 0 0) [] 1 0 T) (hzs : zs = (l.take j).map b2i) (hjn : j ≤ n) (hn : n ≤ 60) (hbl : Bl B0 w A n l) (hV : Vi w Bk (j : Int)) (hx : w.cell? ⟨Bx, 0, none⟩ = some (.slice A n cp)) (ho : w.cell? ⟨Bo, 0, none⟩ = some (.int .u8 (no : Int))) (hno : no < 256)
    (hF : ¬ F Bk) (f1 : ¬ F Bx) (f2 : ¬ F Bo) (n1 : ¬ Bx = Bk) (n2 : ¬ Bo = Bk) (g4 : ∀ b, F b ∨ b = Bk → B0 ≤ b) (hB : B0 ≤ w.heap.size) :
    Calls Try.prog 26 #[ptr a, ptr Bx, ptr Bo, ptr Bk] w (WEnd a wk (KRet w F n Bk l j) (KWait w F n Bk l j) (fun b => F b ∨ b = Bk) w) := by
  have hmf := mk_fn
  have hzl : zs.length = j := by rw [hzs]; have := hbl.len; simp; omega
  have H0 : Hid (AK w F F a wk zs j Bk (l.getD j false) 0 w) := ⟨Only.refl _ _, fun b e => .inl e, ⟨T, .inl ⟨Nat.zero_le _, h, by rw [hzl]; exact hV⟩⟩, h.lt⟩
  have hlB := hV.lt
  have HBL := Lib.hid hbl
  have HX := Lib.hid hx
  have HO := Lib.hid ho
  have HG := Lib.hid g4
  have HZS := Lib.hid hzs
  have HZL := Lib.hid hzl
  have hwno : IntKind.i64.wrap (no : Int) = (no : Int) := IntWalk.i64_in _ (by omega)
  clear h hbl hV ho g4 hzs hzl
  go_enter Try.func26, Try.ntmps26
  go_wp2
  go_loopw [6, 11] (fun u i wr => ∃ (k : Nat) (F' : Nat → Prop), k ≤ n ∧ k ≤ j + 1 ∧ i = .int .i64 k ∧ AK w F F' a wk zs j Bk (l.getD j false) k wr ∧ Row 2 w.heap.size wr u (idx l k) ∧ ∀ b, u.ownBlock = some b → ¬ F' b) (fun _ i _ => n - (intOf i).toNat)
  case atStart => exact ⟨0, F, by omega, by omega, rfl, H0.out, Row.nil _ _ _, fun b e => (by cases e)⟩
  case round =>
    clear H0
    obtain ⟨k, F', hk, hkj, rfl, hA, hrow, hu⟩ := hrel
    obtain ⟨Au, nu, cu, rfl⟩ := hrow.shape
    by_cases hlt : k < n
    · have i2 : (k : Int) < (n : Int) := by omega
      have i3 : (0 : Int) ≤ (k : Int) := by omega
      obtain ⟨b, off, rfl, hbB, x, hxl, hcx⟩ := (HBL.out.only hA.only HG.out).at_ hlt
      have hxg : l.getD k false = x := by simp [List.getD, hxl]
      have c2 := only_read hA.only (fun e => e.elim f2 n2) HO.out
      obtain ⟨W1, By, hW1, hBy, b1, y1⟩ : ∃ (W1 : World) (By : Nat), wr.alloc (.cells #[.bool x] 4) = W1 ∧ wr.heap.size = By ∧ Below wr.heap.size wr W1 ∧ W1.cell? ⟨By, 0, none⟩ = some (.bool x) := ⟨_, _, rfl, rfl, below_new _ _, c_new rfl rfl⟩
      have c3 : (wr.alloc (.cells #[.bool x] 4)).cell? ⟨Bo, 0, none⟩ = some (.int .u8 (no : Int)) := below_read (below_new _ _) c2
      have A1 : AK w F F' a wk zs j Bk (l.getD j false) k W1 := hA.keep (G := fun _ => False) (Only.of_below _ b1) (fun _ e => e.elim)
      have R1 : Row 2 w.heap.size W1 (.slice Au nu cu) (idx l k) := hrow.next b1
      have nBy : ¬ F' By := fun e => by have := hA.lt By e; omega
      have nBk : ¬ By = Bk := by have := hA.only.size; omega
      have HA1 := Lib.hid A1
      have HR1 := Lib.hid R1
      have HU := Lib.hid hu
      have HY := Lib.hid y1
      have HXG := Lib.hid hxg
      have HN := Lib.hid (And.intro nBy nBk)
      have HW1 := Lib.hid hW1
      have HBy := Lib.hid hBy
      clear A1 R1 hu y1 hA hrow hxl hxg c2 b1 nBy nBk hW1 hBy
      by_cases hno2 : (k : Int) = (no : Int)
      · have i5 : ((k : Int) == (no : Int)) = true := by rw [beq_iff_eq]; exact hno2
        clear hno2
        go_wp2_with fail
        (try rw [HW1.out]); (try rw [HBy.out])
        refine (ask_notouch _ W1).mono ?_
        rintro e W2 ⟨rfl, b2⟩
        have HA2' : Hid (AK w F F' a wk zs j Bk (l.getD j false) k W2) := HA1.out.keep (G := fun _ => False) (Only.of_below _ b2) (fun _ e => e.elim)
        have HR2' : Hid (Row 2 w.heap.size W2 (.slice Au nu cu) (idx l k)) := HR1.out.next b2
        have HY2 := Lib.hid (below_read b2 HY.out)
        clear b2
        go_wp2_with fail
        refine (do_notouch _ W2).mono ?_
        rintro e W2' ⟨rfl, rfl⟩
        have hask := ask_k HA2'.out (by have := HZL.out; omega) (by omega) hF hlB HY2.out (fun e => by rw [← HXG.out, show k = j by have := HZL.out; omega]) HN.out.1 HN.out.2
        go_wp2_with fail
        refine hask.mono ?_
        clear hask
        rintro e Z1 (⟨hkz, rfl, F2, hA2, o2, s2⟩ | ⟨hkz, rfl, o2, hV2, T2, hT2⟩)
        · have hval : ((zs ++ [b2i (l.getD j false)]).getD k 0 != 0) = x := by
            rw [HZS.out, told_at (by have := HBL.out.len; omega) (by have := HZL.out; omega), b2i_ne, HXG.out]
          rw [hval]
          have hR2 : Row 2 w.heap.size Z1 (.slice Au nu cu) (idx l k) := own_at HR2'.out (fun b e => o2.block b (World.ownsRow.lt HR2'.out b e).2 (fun g => g.elim (HU.out b e) (fun g => by
            have h1 := own_ty HR2'.out e
            rw [g] at h1
            exact ne_int3 ((show Ty W2 Bk 3 from by
              obtain ⟨_, ⟨_, _, v⟩ | ⟨_, _, v⟩⟩ := HA2'.out.th
              · exact ⟨_, v⟩
              · exact ⟨_, v⟩).one h1))))
          have hu2 : ∀ b, (Value.slice Au nu cu).ownBlock = some b → ¬ F2 b := fun b e e2 => by
            rcases s2 b e2 with e3 | e3
            · exact HU.out b e e3
            · have := (World.ownsRow.lt HR2'.out b e).2; omega
          have HA2 := Lib.hid hA2
          have HR2 := Lib.hid hR2
          have HU2 := Lib.hid hu2
          have hkj2 : k ≤ j := by have := HZL.out; omega
          clear hA2 hR2 hu2 o2 s2 hval hkz
          cases x with
          | false =>
            go_wp2
            go_roundw
            case rel => exact ⟨k + 1, F2, by omega, by omega, by go_num, HA2.out, by rw [idx_succ, HXG.out]; exact HR2.out, HU2.out⟩
            case measure => simp [intOf]; omega
          | true =>
            obtain ⟨W3, s, hW3, hs, b3, e3⟩ : ∃ (W3 : World) (s : Nat), Z1.alloc (.cells #[.int .i64 (k : Int)] 2) = W3 ∧ Z1.heap.size = s ∧ Below Z1.heap.size Z1 W3 ∧ W3.cell? ⟨s, 0, none⟩ = some (.int .i64 (k : Int)) := ⟨_, _, rfl, rfl, below_new _ _, c_new rfl rfl⟩
            have R3 := HR2.out.next b3
            obtain ⟨A', m', n', W4, hrun, r4, g4, l4⟩ := run_pushS (R3.lower (Nat.zero_le _)) (sl_one e3) (by have := idx_len l k; simp; omega) (by simp)
            have A4 : AK w F F2 a wk zs j Bk (l.getD j false) (k + 1) W4 := (HA2.out.keep (G := fun _ => False) (Only.of_below _ b3) (fun _ e => e.elim)).keep (G := fun b => (Value.slice Au nu cu).ownBlock = some b) (Only.grown _ g4 fun b e => e) (fun b e => ⟨HU2.out b e, fun g => by
              have h1 := own_ty HR2.out e
              rw [g] at h1
              exact ne_int3 ((show Ty Z1 Bk 3 from by
                obtain ⟨_, ⟨_, _, v⟩ | ⟨_, _, v⟩⟩ := HA2.out.th
                · exact ⟨_, v⟩
                · exact ⟨_, v⟩).one h1), (World.ownsRow.lt HR2.out b e).1⟩)
            have R4 : Row 2 w.heap.size W4 (.slice A' m' n') (idx l k ++ [(k : Int)]) := r4.raise fun b e => by
              rcases l4 b e with e2 | e2
              · exact (World.ownsRow.lt HR2.out b e2).1
              · have h1 := HA2.out.only.size; have h2 := b3.size; omega
            have U4 : ∀ b, (Value.slice A' m' n').ownBlock = some b → ¬ F2 b := fun b e e2 => by
              rcases l4 b e with e3 | e3
              · exact HU2.out b e3 e2
              · have h1 := HA2.out.lt b e2; have h2 := b3.size; omega
            have HA4 := Lib.hid A4
            have HR4 := Lib.hid R4
            have HU4 := Lib.hid U4
            clear A4 R4 U4 r4 g4 l4 R3 b3 e3 HA2 HR2 HU2
            go_wp2_with (at_builtin; refine Lib.wpList_append_run _ rfl _ _ _ _ rfl _ _ rfl rfl _ _ hrun ?_)
            go_roundw
            case rel => exact ⟨k + 1, F2, by omega, by omega, by go_num, HA4.out, by rw [idx_succ, HXG.out]; exact HR4.out, HU4.out⟩
            case measure => simp [intOf]; omega
        · have hkj2 : k = j + 1 := by have := HZL.out; omega
          have hll := HBL.out.len
          have hzz : zs ++ [b2i (l.getD j false)] = (l.take (j + 1)).map b2i := by
            have hjl : j < l.length := by omega
            have e1 : l.getD j false = l[j] := by simp [List.getD, hjl]
            rw [HZS.out, take_snoc l j hjl, e1, List.map_append]
            rfl
          rw [HZL.out] at hV2
          exact ⟨rfl, o2, .inr ⟨F', T2, _, _, _, rfl, hT2, by omega, hzz, rfl, hV2, HA1.out.new⟩⟩
      · have i5 : ((k : Int) == (no : Int)) = false := by rw [beq_eq_false_iff_ne]; exact hno2
        clear hno2
        have hask := ask_k HA1.out (by have := HZL.out; omega) (by omega) hF hlB HY.out (fun e => by rw [← HXG.out, show k = j by have := HZL.out; omega]) HN.out.1 HN.out.2
        go_wp2_with fail
        (try rw [HW1.out]); (try rw [HBy.out])
        refine hask.mono ?_
        clear hask
        rintro e Z1 (⟨hkz, rfl, F2, hA2, o2, s2⟩ | ⟨hkz, rfl, o2, hV2, T2, hT2⟩)
        · have hval : ((zs ++ [b2i (l.getD j false)]).getD k 0 != 0) = x := by
            rw [HZS.out, told_at (by have := HBL.out.len; omega) (by have := HZL.out; omega), b2i_ne, HXG.out]
          rw [hval]
          have hR2 : Row 2 w.heap.size Z1 (.slice Au nu cu) (idx l k) := own_at HR1.out (fun b e => o2.block b (World.ownsRow.lt HR1.out b e).2 (fun g => g.elim (HU.out b e) (fun g => by
            have h1 := own_ty HR1.out e
            rw [g] at h1
            exact ne_int3 ((show Ty W1 Bk 3 from by
              obtain ⟨_, ⟨_, _, v⟩ | ⟨_, _, v⟩⟩ := HA1.out.th
              · exact ⟨_, v⟩
              · exact ⟨_, v⟩).one h1))))
          have hu2 : ∀ b, (Value.slice Au nu cu).ownBlock = some b → ¬ F2 b := fun b e e2 => by
            rcases s2 b e2 with e3 | e3
            · exact HU.out b e e3
            · have := (World.ownsRow.lt HR1.out b e).2; omega
          have HA2 := Lib.hid hA2
          have HR2 := Lib.hid hR2
          have HU2 := Lib.hid hu2
          have hkj2 : k ≤ j := by have := HZL.out; omega
          clear hA2 hR2 hu2 o2 s2 hval hkz
          cases x with
          | false =>
            go_wp2
            go_roundw
            case rel => exact ⟨k + 1, F2, by omega, by omega, by go_num, HA2.out, by rw [idx_succ, HXG.out]; exact HR2.out, HU2.out⟩
            case measure => simp [intOf]; omega
          | true =>
            obtain ⟨W3, s, hW3, hs, b3, e3⟩ : ∃ (W3 : World) (s : Nat), Z1.alloc (.cells #[.int .i64 (k : Int)] 2) = W3 ∧ Z1.heap.size = s ∧ Below Z1.heap.size Z1 W3 ∧ W3.cell? ⟨s, 0, none⟩ = some (.int .i64 (k : Int)) := ⟨_, _, rfl, rfl, below_new _ _, c_new rfl rfl⟩
            have R3 := HR2.out.next b3
            obtain ⟨A', m', n', W4, hrun, r4, g4, l4⟩ := run_pushS (R3.lower (Nat.zero_le _)) (sl_one e3) (by have := idx_len l k; simp; omega) (by simp)
            have A4 : AK w F F2 a wk zs j Bk (l.getD j false) (k + 1) W4 := (HA2.out.keep (G := fun _ => False) (Only.of_below _ b3) (fun _ e => e.elim)).keep (G := fun b => (Value.slice Au nu cu).ownBlock = some b) (Only.grown _ g4 fun b e => e) (fun b e => ⟨HU2.out b e, fun g => by
              have h1 := own_ty HR2.out e
              rw [g] at h1
              exact ne_int3 ((show Ty Z1 Bk 3 from by
                obtain ⟨_, ⟨_, _, v⟩ | ⟨_, _, v⟩⟩ := HA2.out.th
                · exact ⟨_, v⟩
                · exact ⟨_, v⟩).one h1), (World.ownsRow.lt HR2.out b e).1⟩)
            have R4 : Row 2 w.heap.size W4 (.slice A' m' n') (idx l k ++ [(k : Int)]) := r4.raise fun b e => by
              rcases l4 b e with e2 | e2
              · exact (World.ownsRow.lt HR2.out b e2).1
              · have h1 := HA2.out.only.size; have h2 := b3.size; omega
            have U4 : ∀ b, (Value.slice A' m' n').ownBlock = some b → ¬ F2 b := fun b e e2 => by
              rcases l4 b e with e3 | e3
              · exact HU2.out b e3 e2
              · have h1 := HA2.out.lt b e2; have h2 := b3.size; omega
            have HA4 := Lib.hid A4
            have HR4 := Lib.hid R4
            have HU4 := Lib.hid U4
            clear A4 R4 U4 r4 g4 l4 R3 b3 e3 HA2 HR2 HU2
            go_wp2_with (at_builtin; refine Lib.wpList_append_run _ rfl _ _ _ _ rfl _ _ rfl rfl _ _ hrun ?_)
            go_roundw
            case rel => exact ⟨k + 1, F2, by omega, by omega, by go_num, HA4.out, by rw [idx_succ, HXG.out]; exact HR4.out, HU4.out⟩
            case measure => simp [intOf]; omega
        · have hkj2 : k = j + 1 := by have := HZL.out; omega
          have hll := HBL.out.len
          have hzz : zs ++ [b2i (l.getD j false)] = (l.take (j + 1)).map b2i := by
            have hjl : j < l.length := by omega
            have e1 : l.getD j false = l[j] := by simp [List.getD, hjl]
            rw [HZS.out, take_snoc l j hjl, e1, List.map_append]
            rfl
          rw [HZL.out] at hV2
          exact ⟨rfl, o2, .inr ⟨F', T2, _, _, _, rfl, hT2, by omega, hzz, rfl, hV2, HA1.out.new⟩⟩
    · have hke : k = n := by omega
      have i2 : ¬ (k : Int) < (n : Int) := by omega
      subst hke
      have hsl := hrow.sl
      have HE : Hid (WEnd a wk (KRet w F k Bk l j) (KWait w F k Bk l j) (fun b => F b ∨ b = Bk) w (.returned (.slice Au nu cu)) wr) := by
        refine ⟨hA.only, .inl ?_⟩
        have hil := idx_len l k
        obtain ⟨T', ⟨h1, h2, h3⟩ | ⟨h1, h2, h3⟩⟩ := hA.th
        · have hkj2 : k = j := by have := HZL.out; omega
          rw [HZL.out] at h3
          refine ⟨F', T', _, _, _, 1, Au, nu, cu, _, rfl, hsl, by omega, by omega, by omega, h2, rfl, hkj2.symm, by omega, by rw [hkj2]; exact h3, hA.new⟩
        · rw [HZL.out] at h3
          have hkj2 : k = j + 1 := by have := HZL.out; omega
          refine ⟨F', T', _, _, _, 3, Au, nu, cu, _, rfl, hsl, by omega, by omega, by omega, h2, rfl, hkj2.symm, by omega, by rw [hkj2]; exact h3, hA.new⟩
      clear hA hrow hu hsl
      go_wp2
      go_ret
      exact HE.out
end
end Go.Proofs.Ytbjaojcffhkahaa
