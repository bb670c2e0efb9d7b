/-
  ThreadLong's work, gone through from its beginning; a Step of it. Flags in memory.
-/
import Derived.Test.YtbjaojcffhkahaaTs6
import Derived.Deep.LoopGhost
namespace Go.Proofs.Ytbjaojcffhkahaa
open Go.ChangeShapes Go.WideShapes Go.ChangeAt Go.RowKit
set_option linter.unusedVariables false
set_option linter.unusedSimpArgs false
set_option maxRecDepth 20000

/-- A slice of n flags at A, below block B0. -/
structure Bl (B0 : Nat) (w : World) (A : Option Addr) (n : Nat) (l : List Bool) : Prop where
  len : n = l.length
  cells : l = [] ∨ ∃ b off, A = some ⟨b, off, none⟩ ∧ b < B0 ∧ ∀ i x, l[i]? = some x → w.cell? ⟨b, off + i, none⟩ = some (.bool x)
theorem Bl.only {B0 : Nat} {w w' : World} {A : Option Addr} {n : Nat} {l : List Bool} {G : Nat → Prop} (h : Bl B0 w A n l) (ho : Only G w w') (hG : ∀ b, G b → B0 ≤ b) : Bl B0 w' A n l := by
  refine ⟨h.len, ?_⟩
  rcases h.cells with e | ⟨b, off, e, hb, hc⟩
  · exact .inl e
  · exact .inr ⟨b, off, e, hb, fun i t hi => only_read ho (fun g => by have h1 := hG _ g; simp only at h1; omega) (hc i t hi)⟩
theorem Bl.at_ {B0 : Nat} {w : World} {A : Option Addr} {n : Nat} {l : List Bool} (h : Bl B0 w A n l) {i : Nat} (hi : i < n) : ∃ b off, A = some ⟨b, off, none⟩ ∧ b < B0 ∧ ∃ x, l[i]? = some x ∧ w.cell? ⟨b, off + i, none⟩ = some (.bool x) := by
  have hil : i < l.length := by rw [← h.len]; exact hi
  rcases h.cells with e | ⟨b, off, e, hb, hc⟩
  · subst e; simp at hil
  · exact ⟨b, off, e, hb, l[i], List.getElem?_eq_getElem hil, hc i _ (List.getElem?_eq_getElem hil)⟩
theorem bl_below {w w' : World} {A : Option Addr} {n : Nat} {l : List Bool} (h : Bl w.heap.size w A n l) (hb : Below w.heap.size w w') : Bl w.heap.size w' A n l := h.only (G := fun b => w.heap.size ≤ b) ⟨hb.os, hb.tape, hb.output, hb.size, fun b e hn => hb.block b (by omega)⟩ (fun b e => e)

section
variable {F G F' : Nat → Prop} {w w' wr : World} {a st ph k Bn Bw : Nat} {zs os : List Int} {wk T O : Value} {v wt : Int}
theorem touchL (h : w.cell? ⟨Bn, 0, none⟩ = some (.int .i64 v)) : Calls Try.prog 29 #[ptr Bn] w fun e w' => e = .returned (.int .i64 v) ∧ w = w' := by
  go_enter Try.func29, Try.ntmps29
  go_wp2
  go_ret
  exact ⟨rfl, rfl⟩

/-- Where its work is, behind k touches. -/
def LSt (w : World) (F : Nat → Prop) (a : Nat) (wk T : Value) (zs : List Int) (st : Nat) (v : Int) (k : Nat) (wr : World) : Prop :=
  Only F w wr ∧ ((k ≤ zs.length ∧ Th F wr a wk zs st (.slice none 0 0) [] 1 k T) ∨ (k = zs.length + 1 ∧ ∃ F' T', Th F' wr a wk (zs ++ [v]) (st + 1) (.slice none 0 0) [] 3 k T' ∧ ∀ b, F' b → F b ∨ w.heap.size ≤ b))

theorem do_long (h : LSt w F a wk T zs st v k wr) (hz : zs.length ≤ 100) (hst : st ≤ 100) (hv : Vr w Bn v) (hF : ¬ F Bn) (hfa : F a) :
    Calls Try.prog 20 #[ptr a, .func (.func 29) #[] #[ptr Bn]] wr fun e w' =>
      (k ≤ zs.length ∧ e = .returned (.int .i64 ((zs ++ [v]).getD k 0)) ∧ LSt w F a wk T zs st v (k + 1) w') ∨
      (k = zs.length + 1 ∧ e = .panicked waitE ∧ Only F w w' ∧ ∃ F' T', Th F' w' a wk (zs ++ [v]) (st + 1) (.slice none 0 0) [] 4 k T' ∧ ∀ b, F' b → F b ∨ w.heap.size ≤ b) := by
  obtain ⟨ho, ⟨hk, hT⟩ | ⟨hk, F', T', hT, hs⟩⟩ := h
  · by_cases hlt : k < zs.length
    · refine (do_replay _ _ _ hT hlt (by omega)).mono ?_
      rintro e w' ⟨rfl, h1, o1⟩
      exact .inl ⟨hk, by simp [List.getD, List.getElem?_append, hlt], ho.trans o1 (fun b e => .inl (by rw [e]; exact hfa)), .inl ⟨by omega, h1⟩⟩
    · have hke : k = zs.length := by omega
      refine (do_fresh (S := fun z w2 => z = v ∧ Only F w w2) (fun W => rfl) hT hke (by omega) (by omega) ?_).mono ?_
      · intro w1 hT1 hO
        have hv1 := (hv.only ho hF).only hO (fun e => hF (by rw [e]; exact hfa))
        refine (touchL hv1.cell).mono ?_
        rintro e w2 ⟨rfl, rfl⟩
        exact ⟨v, rfl, hT1, rfl, ho.trans hO (fun b e => .inl (by rw [e]; exact hfa))⟩
      · rintro e w' ⟨z, w2, F', T', rfl, ⟨rfl, o2⟩, h3, o3, s3⟩
        exact .inl ⟨hk, by subst hke; simp [List.getD], o2.then o3, .inr ⟨by omega, F', T', h3, fun b e => (s3 b e).imp id (Nat.le_trans o2.size)⟩⟩
  · refine (do_wait _ _ _ hT (by simp [hk]) (by simp; omega)).mono ?_
    rintro e w' ⟨rfl, h1, o1⟩
    exact .inr ⟨hk, rfl, ho.trans o1 (fun b e => .inl (by rw [e]; exact hfa)), F', T', h1, hs⟩

set_option maxHeartbeats 2000000 in
theorem lwork (h : Th F w a wk zs st (.slice none 0 0) [] 1 0 T) (hz : zs.length ≤ 100) (hst : st ≤ 100) (hlv : ∀ z ∈ zs, z < wt) (hv : Vr w Bn v) (hw : Vr w Bw wt) (hF : ¬ F Bn) (hF2 : ¬ F Bw) :
    Calls Try.prog 28 #[ptr a, ptr Bn, ptr Bw] w (WEnd a wk (fun F' ws zs' st' w2 => ws = [(zs.length : Int)] ∧ wt ≤ v ∧ st' = st + 1 ∧ ∀ b, F' b → F b ∨ w.heap.size ≤ b) (fun F' zs' st' w2 => v < wt ∧ zs' = zs ++ [v] ∧ st' = st + 1 ∧ ∀ b, F' b → F b ∨ w.heap.size ≤ b) F w) := by
  have hmf := mk_fn
  have hfa := h.fa
  have H0 : Hid (LSt w F a wk T zs st v 0 w) := ⟨Only.refl _ _, .inl ⟨Nat.zero_le _, h⟩⟩
  have HV := Lib.hid hv
  have HW := Lib.hid hw
  have HLV := Lib.hid hlv
  have HL := Lib.hid hz
  clear h hv hw hlv
  go_enter Try.func28, Try.ntmps28
  go_wp2
  go_loopg [5] (zs.length + 2) (fun gk u wr => ∃ k : Nat, u = .int .i64 k ∧ gk + k = zs.length + 2 ∧ k ≤ zs.length + 1 ∧ Hid (LSt w F a wk T zs st v k wr ∧ (k = zs.length + 1 → v < wt)))
  case atStart => exact ⟨0, rfl, rfl, by omega, ⟨H0.out, fun e => by omega⟩⟩
  case round =>
    clear H0
    obtain ⟨k, rfl, hgk, hkl, HH⟩ := hrel
    have hk100 : k ≤ 101 := by omega
    obtain ⟨X0, hX0, hL0, hC⟩ : ∃ X0 : World, wr.drew = X0 ∧ LSt w F a wk T zs st v k X0 ∧ X0.cell? ⟨Bw, 0, none⟩ = some (.int .i64 wt) := by
      obtain ⟨⟨ho, hh⟩, -⟩ := HH.out
      refine ⟨_, rfl, ⟨ho.then (only_drew _ _), ?_⟩, ((HW.out.only ho hF2).only (only_drew (fun _ => False) wr) (fun e => e)).cell⟩
      rcases hh with ⟨h1, h2⟩ | ⟨h1, F', T', h2, h3⟩
      · exact .inl ⟨h1, h2.drew⟩
      · exact .inr ⟨h1, F', T', h2.drew, h3⟩
    have HKW := Lib.hid HH.out.2
    have hdo := do_long hL0 hz hst HV.out hF hfa
    have HDO := Lib.hid hdo
    clear hdo HH hL0
    go_wp2_with fail
    refine region_T (fun _ => false) (fun w' => w'.cell? ⟨Bw, 0, none⟩ = some (.int .i64 wt)) (by kernel_rfl) ?_
    rw [hX0]
    clear hX0
    refine takeD 0 6 (v := ?_) rfl rfl (by kernel_rfl) (by kernel_rfl) (by kernel_rfl) (by kernel_rfl) (fun _ _ _ _ h => h) hC (by rfl) ?_ ?_
    rotate_left
    · intro w hSw; (try dsimp only at hSw); go_simp; try (with_reducible rfl)
    simp only [List.setIfInBounds_toArray, List.set_cons_zero, List.set_cons_succ]
    refine takeD 1 7 (v := ?_) rfl rfl (by kernel_rfl) (by kernel_rfl) (by kernel_rfl) (by kernel_rfl) (fun _ _ _ _ h => h) hC (by rfl) ?_ ?_
    rotate_left
    · intro w hSw; (try dsimp only at hSw); go_simp; try (with_reducible rfl)
    simp only [List.setIfInBounds_toArray, List.set_cons_zero, List.set_cons_succ]
    refine takeD 3 9 (v := ?_) rfl rfl (by kernel_rfl) (by kernel_rfl) (by kernel_rfl) (by kernel_rfl) (fun _ _ _ _ h => h) hC (by rfl) ?_ ?_
    rotate_left
    · intro w hSw; (try dsimp only at hSw); go_simp; try (with_reducible rfl)
    simp only [List.setIfInBounds_toArray, List.set_cons_zero, List.set_cons_succ]
    refine oneT (i := 2) (by kernel_rfl) rfl (by rfl) (fun K hK => ?_)
    go_simp
    refine HDO.out.mono ?_
    clear HDO
    rintro e X1 (⟨hk, rfl, hL1⟩ | ⟨hk, rfl, ho, F', T', h1, s1⟩)
    · have hC1 : X1.cell? ⟨Bw, 0, none⟩ = some (.int .i64 wt) := (HW.out.only hL1.1 hF2).cell
      refine hK.out _ _ (fun _ => hC1) ?_
      clear hK K hC
      have hC := hC1
      try simp only [Act.put, List.setIfInBounds_toArray, List.set_cons_zero, List.set_cons_succ]
      have HL1 := Lib.hid hL1
      clear hL1 hC1
      have hq : k = zs.length → (zs ++ [v]).getD k 0 = v := fun e => by subst e; simp [List.getD]
      have hq2 : k < zs.length → (zs ++ [v]).getD k 0 < wt := fun e => by
        have : (zs ++ [v]).getD k 0 = zs[k] := by simp [List.getD, List.getElem?_append, e]
        rw [this]
        exact HLV.out _ (List.getElem_mem e)
      by_cases hlt : (zs ++ [v]).getD k 0 < wt
      · have HNX : Hid (k + 1 = zs.length + 1 → v < wt) := fun e => by
          rw [hq (by omega)] at hlt
          exact hlt
        clear hq hq2
        generalize (zs ++ [v]).getD k 0 = z at *
        refine oneT (i := 4) (by kernel_rfl) rfl (by rfl) (fun K hK => ?_)
        go_simp
        refine hK.out _ _ (fun _ => hC) ?_
        clear hK K
        try simp only [Act.put, List.setIfInBounds_toArray, List.set_cons_zero, List.set_cons_succ]
        refine doneT (by kernel_rfl) ?_
        clear hC
        go_wp2
        go_roundg (gk - 1)
        case measure => omega
        case rel => exact ⟨k + 1, by go_num, by omega, by omega, ⟨HL1.out, HNX.out⟩⟩
      · have hke : k = zs.length := by
          rcases Nat.lt_or_ge k zs.length with e | e
          · exact absurd (hq2 e) hlt
          · omega
        have hwv : wt ≤ v := by rw [hq hke] at hlt; omega
        have HE : Hid (∀ w3, Below X1.heap.size X1 w3 → ∀ s, Sl w3 (some ⟨s, 0, none⟩) 1 1 [(k : Int)] → WEnd a wk (fun F' ws zs' st' w2 => ws = [(zs.length : Int)] ∧ wt ≤ v ∧ st' = st + 1 ∧ ∀ b, F' b → F b ∨ w.heap.size ≤ b) (fun F' zs' st' w2 => v < wt ∧ zs' = zs ++ [v] ∧ st' = st + 1 ∧ ∀ b, F' b → F b ∨ w.heap.size ≤ b) F w (.returned (.slice (some ⟨s, 0, none⟩) 1 1)) w3) := by
          intro w3 hb s hs
          obtain ⟨ho, ⟨h1, _⟩ | ⟨_, F', T', h2, h3⟩⟩ := HL1.out
          · omega
          · exact ⟨ho.then (Only.of_below _ hb), .inl ⟨F', T', _, _, _, 3, _, 1, 1, _, rfl, hs, by simp, by omega, by omega, h2.below hb, by rw [hke], hwv, rfl, h3⟩⟩
        clear hq hq2 hke hwv HL1 HKW
        generalize (zs ++ [v]).getD k 0 = z at *
        refine oneT (i := 4) (by kernel_rfl) rfl (by rfl) (fun K hK => ?_)
        go_simp
        refine hK.out _ _ (fun _ => hC) ?_
        clear hK K
        try simp only [Act.put, List.setIfInBounds_toArray, List.set_cons_zero, List.set_cons_succ]
        refine doneT (by kernel_rfl) ?_
        clear hC
        go_wp2
        go_ret
        exact HE.out _ (below_new _ _) _ (sl_one (c_new rfl rfl))
    · refine ⟨rfl, ho, .inr ⟨F', T', _, _, _, rfl, h1, HKW.out hk, rfl, rfl, s1⟩⟩

/-- ThreadLong's thread: it waits, and was told zs; its variables. -/
structure LT (w0 : World) (a Bn Bw : Nat) (zs : List Int) (v wt : Int) (F : Nat → Prop) (wr : World) : Prop where
  th : ∃ T k, Th F wr a (.func (.func 28) #[] #[ptr Bn, ptr Bw]) zs zs.length (.slice none 0 0) [] 0 k T
  lv : ∀ z ∈ zs, z < wt
  vn : Vr wr Bn v
  vw : Vr wr Bw wt
  nn : ¬ F Bn
  nw : ¬ F Bw
  ne : ¬ Bn = Bw
  ge : ∀ b, F b ∨ b = Bn ∨ b = Bw → w0.heap.size ≤ b
theorem LT.below {w0 : World} (h : LT w0 a Bn Bw zs v wt F w) (hb : Below w.heap.size w w') : LT w0 a Bn Bw zs v wt F w' := by
  obtain ⟨T, k, hT⟩ := h.th
  exact ⟨⟨T, k, hT.below hb⟩, h.lv, h.vn.only (Only.of_below (fun _ => False) hb) (fun e => e), h.vw.only (Only.of_below (fun _ => False) hb) (fun e => e), h.nn, h.nw, h.ne, h.ge⟩
/-- n is set. -/
theorem LT.set {w0 : World} (h : LT w0 a Bn Bw zs v wt F w) (u : Int) : LT w0 a Bn Bw zs u wt F (w.setCell ⟨Bn, 0, none⟩ (.int .i64 u)) := by
  obtain ⟨T, k, hT⟩ := h.th
  exact ⟨⟨T, k, hT.only (only_set w Bn 0 _) (fun b e e2 => h.nn (by rw [← e2]; exact e))⟩, h.lv, h.vn.set u, h.vw.only (only_set w Bn 0 _) (fun e => h.ne e.symm), h.nn, h.nw, h.ne, h.ge⟩
theorem step_long {w0 : World} (h : LT w0 a Bn Bw zs v wt F w) (hz : zs.length ≤ 100) (hw0 : w0.heap.size ≤ w.heap.size) :
    Calls Try.prog 12 #[ptr a] w fun e w' => Only F w w' ∧ ((wt ≤ v ∧ e = .returned (.bool true) ∧ ∃ F' O' k', Th F' w' a .nilFunc [] (zs.length + 1) O' [(zs.length : Int)] 0 k' (.slice none 0 0)) ∨ (v < wt ∧ e = .returned (.bool false) ∧ ∃ F', LT w0 a Bn Bw (zs ++ [v]) v wt F' w' ∧ ∀ b, F' b → F b ∨ w.heap.size ≤ b)) := by
  obtain ⟨T, k, hT⟩ := h.th
  have hfa := hT.fa
  refine (step_walk (G := F) (args := #[ptr a, ptr Bn, ptr Bw])
    (RP := fun F' ws zs' st' w2 => Only F w w2 ∧ ws = [(zs.length : Int)] ∧ wt ≤ v ∧ st' = zs.length + 1 ∧ ∀ b, F' b → F b ∨ w.heap.size ≤ b)
    (WP := fun F' zs' st' w2 => F' a ∧ Only F w w2 ∧ v < wt ∧ zs' = zs ++ [v] ∧ st' = zs.length + 1 ∧ ∀ b, F' b → F b ∨ w.heap.size ≤ b) rfl (fun W => rfl) hT hT.lt ?_).mono ?_
  · intro w1 hT1 hO
    refine (lwork hT1 hz hz h.lv (h.vn.only hO (fun e => h.nn (by rw [e]; exact hfa))) (h.vw.only hO (fun e => h.nw (by rw [e]; exact hfa))) h.nn h.nw).mono ?_
    intro e w2 hw
    have hO2 : Only F w w1 := hO.mono fun b e => by rw [e]; exact hfa
    refine hw.mono (fun b e => e) ?_ ?_
    · intro F' ws zs' st' hf ho ⟨r1, r2, r3, r4⟩
      exact ⟨hO2.then ho, r1, r2, r3, fun b e => (r4 b e).imp id (Nat.le_trans hO.size)⟩
    · intro F' zs' st' hf ho ⟨r1, r2, r3, r4⟩
      exact ⟨hf, hO2.then ho, r1, r2, r3, fun b e => (r4 b e).imp id (Nat.le_trans hO.size)⟩
  · rintro e w' (⟨x, F', ws, zs', st', k', F'', O', rfl, ⟨o1, rfl, r2, rfl, r4⟩, h2, o2, s2⟩ | ⟨x, F', T', zs', st', k', rfl, ⟨hf, o1, r1, rfl, rfl, r4⟩, h2, o2⟩)
    · exact ⟨o1.trans o2 (fun b e => .inl (by rw [e]; exact hfa)), .inl ⟨r2, rfl, F'', O', k', h2⟩⟩
    · have hall : Only F w w' := o1.trans o2 (fun b e => .inl (by rw [e]; exact hfa))
      refine ⟨hall, .inr ⟨r1, rfl, F', ⟨⟨T', k', by simpa using h2⟩, ?_, h.vn.only hall h.nn, h.vw.only hall h.nw, ?_, ?_, h.ne, ?_⟩, r4⟩⟩
      · intro z hz
        rcases List.mem_append.1 hz with e | e
        · exact h.lv z e
        · simp at e; rw [e]; exact r1
      · intro e; exact (r4 _ e).elim h.nn (by have := h.vn.lt; omega)
      · intro e; exact (r4 _ e).elim h.nw (by have := h.vw.lt; omega)
      · intro b e
        rcases e with e | e
        · exact (r4 b e).elim (fun e => h.ge b (.inl e)) (Nat.le_trans hw0)
        · exact h.ge b (.inr e)
end
end Go.Proofs.Ytbjaojcffhkahaa
