/-
  Threads of Make on one cell, the document's runners on another: many, each block of memory with one owner.
-/
import Derived.Test.YtbjaojcffhkahaaDs6
import Derived.Test.YtbjaojcffhkahaaLawR
namespace Go.Proofs.Ytbjaojcffhkahaa
open Go.ChangeShapes Go.WideShapes Go.ChangeAt Go.RowKit
set_option linter.unusedVariables false
set_option linter.unusedSimpArgs false
set_option maxRecDepth 20000

section
variable {F F2 FF G : Nat → Prop} {w : World} {a c n cp B0 r i : Nat} {zs l : List Int} {N : Int} {L R : Value} {A : Option Addr} {fin : Bool}
theorem MT.wide (h : MT FF B0 w a c A n cp zs fin) (hs : ∀ b, FF b → F2 b) (hg : ∀ b, F2 b → B0 ≤ b) (hl : ∀ b, F2 b → b < w.heap.size) : MT F2 B0 w a c A n cp zs fin := by
  obtain ⟨F, Bp, Bc, T, O, os, wk, told, k, h1, h2, h3, h4, h5, h6, h7, h8, h9⟩ := h.ex
  exact ⟨⟨F, Bp, Bc, T, O, os, wk, told, k, h1, h2, h3, h4, h5, h6, fun b e => hs b (h7 b e), hs _ h8, hs _ h9⟩, hg, hl⟩
theorem Ce.wide (h : Ce F w c N l L) (hs : ∀ b, F b → F2 b) (hl : ∀ b, F2 b → b < w.heap.size) : Ce F2 w c N l L := ⟨h.head, h.row, hs _ h.fc, fun b e => hs b (h.fl b e), hl⟩
theorem Rn.wide (h : Rn F w r A n cp i zs R) (hs : ∀ b, F b → F2 b) (hl : ∀ b, F2 b → b < w.heap.size) : Rn F2 w r A n cp i zs R := ⟨h.head, h.row, hs _ h.fr, fun b e => hs b (h.fl b e), hl⟩
end
def upd {α : Type} (f : Nat → α) (i : Nat) (x : α) : Nat → α := fun j => if j = i then x else f j
theorem upd_same {α : Type} (f : Nat → α) (i : Nat) (x : α) : upd f i x i = x := by simp [upd]
theorem upd_ne {α : Type} (f : Nat → α) (i : Nat) (x : α) {j : Nat} (h : j ≠ i) : upd f i x j = f j := by simp [upd, h]
/-- A program's slice, and its touches. -/
structure Ps where
  A : Option Addr
  n : Nat
  cp : Nat
  pr : List Tc

structure MS (w0 : World) (ca cb m : Nat) (P : Nat → Ps) (ths rs : Nat → Nat) (zs : Nat → List Int) (fin : Nat → Bool) (N : Int) (l : List Int) (zs2 : Nat → List Int) (N2 : Int) (l2 : List Int) (lv wv : Value) (O : Nat → Nat) (wr : World) : Prop where
  mt : ∀ i, i < m → MT (fun b => O b = (10 + 2 * i)) w0.heap.size wr (ths i) ca (P i).A (P i).n (P i).cp (zs i) (fin i)
  rn : ∀ i, i < m → ∃ R, Rn (fun b => O b = (11 + 2 * i)) wr (rs i) (P i).A (P i).n (P i).cp (pos (zs2 i)) (zs2 i) R
  ce : ∃ L, Ce (fun b => O b = 1) wr ca N l L
  cd : ∃ L, Ce (fun b => O b = 2) wr cb N2 l2 L
  lr : wr.ownsRow w0.heap.size 29 1 lv m ((List.range m).map (fun i => ptr (ths i)))
  rr : wr.ownsRow w0.heap.size 31 1 wv m ((List.range m).map (fun i => ptr (rs i)))
  lo : ∀ b, lv.ownBlock = some b → O b = 3
  wo : ∀ b, wv.ownBlock = some b → O b = 4
  lt : ∀ b, O b ≠ 0 → b < wr.heap.size
  ge : ∀ b, O b ≠ 0 → w0.heap.size ≤ b
  bd : ∀ i, i < m → pos (zs i) ≤ (P i).n + 1
  bd2 : ∀ i, i < m → pos (zs2 i) ≤ (P i).n + 1
  pg : ∀ i, i < m → Pg w0.heap.size w0 (P i).A (P i).n (P i).pr ∧ (P i).n ≤ 20
  bel : Below w0.heap.size w0 wr
section
variable {w0 w w' : World} {ca cb m i : Nat} {P : Nat → Ps} {ths rs : Nat → Nat} {zs zs2 : Nat → List Int} {fin : Nat → Bool} {N N2 : Int} {l l2 : List Int} {lv wv : Value} {O : Nat → Nat} {G : Nat → Prop}
theorem MS.only (h : MS w0 ca cb m P ths rs zs fin N l zs2 N2 l2 lv wv O w) (ho : Only G w w') (hG : ∀ b, G b → O b = 0) (hB : ∀ b, G b → w0.heap.size ≤ b) : MS w0 ca cb m P ths rs zs fin N l zs2 N2 l2 lv wv O w' := by
  have hn : ∀ t, t ≠ 0 → ∀ b, O b = t → ¬ G b := fun t ht b e g => ht (e.symm.trans (hG b g))
  refine ⟨fun i hi => (h.mt i hi).only ho (hn _ (by omega)), fun i hi => ?_, ?_, ?_, own_at h.lr fun b e => ho.block b (World.ownsRow.lt h.lr b e).2 (hn 3 (by omega) b (h.lo b e)), own_at h.rr fun b e => ho.block b (World.ownsRow.lt h.rr b e).2 (hn 4 (by omega) b (h.wo b e)), h.lo, h.wo, fun b e => Nat.lt_of_lt_of_le (h.lt b e) ho.size, h.ge, h.bd, h.bd2, h.pg, h.bel.trans (ho.below hB h.bel.size)⟩
  · obtain ⟨R, hR⟩ := h.rn i hi
    exact ⟨R, hR.only ho (hn _ (by omega))⟩
  · obtain ⟨L, hL⟩ := h.ce
    exact ⟨L, hL.only ho (hn _ (by omega))⟩
  · obtain ⟨L, hL⟩ := h.cd
    exact ⟨L, hL.only ho (hn _ (by omega))⟩
theorem MS.below (h : MS w0 ca cb m P ths rs zs fin N l zs2 N2 l2 lv wv O w) (hb : Below w.heap.size w w') : MS w0 ca cb m P ths rs zs fin N l zs2 N2 l2 lv wv O w' := h.only (G := fun _ => False) (Only.of_below _ hb) (fun _ e => e.elim) (fun _ e => e.elim)
theorem MS.free (h : MS w0 ca cb m P ths rs zs fin N l zs2 N2 l2 lv wv O w) {b : Nat} (hb : w.heap.size ≤ b) : O b = 0 := by
  rcases Nat.eq_zero_or_pos (O b) with e | e
  · exact e
  · have := h.lt b (by omega); omega

/-- A Step of thread i. -/
theorem MS.step (h : MS w0 ca cb m P ths rs zs fin N l zs2 N2 l2 lv wv O w) (hi : i < m) (hl : l.length ≤ 1000) :
    Calls Try.prog 12 #[ptr (ths i)] w fun e w' => e = .returned (.bool (decide ((P i).n ≤ pos (nxt (P i).pr (zs i) N l).1))) ∧ ∃ O', MS w0 ca cb m P ths rs (upd zs i (nxt (P i).pr (zs i) N l).1) (upd fin i (decide ((P i).n ≤ pos (nxt (P i).pr (zs i) N l).1))) (nxt (P i).pr (zs i) N l).2.1 (nxt (P i).pr (zs i) N l).2.2 zs2 N2 l2 lv wv O' w' ∧ Only (fun b => O b = (10 + 2 * i) ∨ O b = 1) w w' := by
  classical
  obtain ⟨L, hc⟩ := h.ce
  obtain ⟨hpg, hn20⟩ := h.pg i hi
  have hz : (zs i).length ≤ 21 := Nat.le_trans (pos_len _) (Nat.le_trans (h.bd i hi) (by omega))
  refine (step_make (h.mt i hi) hc (by omega) (by omega) (by omega) (pg_below hpg h.bel) (fun b e e2 => by rw [e] at e2; omega) (fun b e => h.ge b (by rw [e]; omega)) h.bel.size).mono ?_
  rintro e w' ⟨rfl, FF', FC', L', hs⟩
  refine ⟨rfl, fun b => if O b ≠ 0 then O b else if FF' b then (10 + 2 * i) else if FC' b then 1 else 0, ?_, hs.only⟩
  have hold : ∀ b, O b ≠ 0 → (if O b ≠ 0 then O b else if FF' b then (10 + 2 * i) else if FC' b then 1 else 0) = O b := fun b e => by rw [if_pos e]
  have hnew : ∀ b, O b = 0 → (if O b ≠ 0 then O b else if FF' b then (10 + 2 * i) else if FC' b then 1 else 0) = if FF' b then (10 + 2 * i) else if FC' b then 1 else 0 := fun b e => by rw [if_neg (by simpa using e)]
  have hlt : ∀ b, (if O b ≠ 0 then O b else if FF' b then (10 + 2 * i) else if FC' b then 1 else 0) ≠ 0 → b < w'.heap.size := fun b e => by
    by_cases h0 : O b = 0
    · rw [hnew b h0] at e
      by_cases h1 : FF' b
      · exact hs.mt.lt b h1
      · rw [if_neg h1] at e
        by_cases h2 : FC' b
        · exact hs.ce.lt b h2
        · rw [if_neg h2] at e; exact absurd rfl e
    · exact Nat.lt_of_lt_of_le (h.lt b h0) hs.only.size
  have hge : ∀ b, (if O b ≠ 0 then O b else if FF' b then (10 + 2 * i) else if FC' b then 1 else 0) ≠ 0 → w0.heap.size ≤ b := fun b e => by
    by_cases h0 : O b = 0
    · rw [hnew b h0] at e
      by_cases h1 : FF' b
      · exact hs.mt.ge b h1
      · rw [if_neg h1] at e
        by_cases h2 : FC' b
        · rcases hs.newC b h2 with e3 | e3
          · rw [h0] at e3; omega
          · exact Nat.le_trans h.bel.size e3
        · rw [if_neg h2] at e; exact absurd rfl e
    · exact h.ge b h0
  have hkeep : ∀ t, t ≠ 0 → ∀ b, O b = t → (if O b ≠ 0 then O b else if FF' b then (10 + 2 * i) else if FC' b then 1 else 0) = t := fun t ht b e => by rw [hold b (by rw [e]; exact ht), e]
  have hFF : ∀ b, FF' b → (if O b ≠ 0 then O b else if FF' b then (10 + 2 * i) else if FC' b then 1 else 0) = (10 + 2 * i) := fun b e => by
    rcases hs.newF b e with e2 | e2
    · exact hkeep _ (by omega) b e2
    · rw [hnew b (h.free e2), if_pos e]
  have hFC : ∀ b, FC' b → (if O b ≠ 0 then O b else if FF' b then (10 + 2 * i) else if FC' b then 1 else 0) = 1 := fun b e => by
    rcases hs.newC b e with e2 | e2
    · exact hkeep _ (by omega) b e2
    · rw [hnew b (h.free e2), if_neg (fun g => hs.dis b g e), if_pos e]
  have hno : ∀ t, t ≠ (10 + 2 * i) → t ≠ 1 → ∀ b, O b = t → ¬ (O b = (10 + 2 * i) ∨ O b = 1) := fun t h1 h2 b e g => by rw [e] at g; omega
  refine ⟨fun j hj => ?_, fun j hj => ?_, ⟨L', hs.ce.wide hFC (fun b e => hlt b (by rw [e]; omega))⟩, ?_, own_at h.lr fun b e => hs.only.block b (World.ownsRow.lt h.lr b e).2 (hno 3 (by omega) (by omega) b (h.lo b e)), own_at h.rr fun b e => hs.only.block b (World.ownsRow.lt h.rr b e).2 (hno 4 (by omega) (by omega) b (h.wo b e)), fun b e => hkeep 3 (by omega) b (h.lo b e), fun b e => hkeep 4 (by omega) b (h.wo b e), hlt, hge, fun j hj => ?_, h.bd2, h.pg, h.bel.trans (hs.only.below (fun b e => h.ge b (by rcases e with e | e <;> rw [e] <;> omega)) h.bel.size)⟩
  · by_cases hji : j = i
    · subst hji
      rw [upd_same, upd_same]
      exact hs.mt.wide hFF (fun b e => hge b (by rw [e]; omega)) (fun b e => hlt b (by rw [e]; omega))
    · rw [upd_ne _ _ _ hji, upd_ne _ _ _ hji]
      exact ((h.mt j hj).only hs.only (hno ((10 + 2 * j)) (by omega) (by omega))).wide (hkeep ((10 + 2 * j)) (by omega)) (fun b e => hge b (by rw [e]; omega)) (fun b e => hlt b (by rw [e]; omega))
  · obtain ⟨R, hR⟩ := h.rn j hj
    exact ⟨R, (hR.only hs.only (hno ((11 + 2 * j)) (by omega) (by omega))).wide (hkeep ((11 + 2 * j)) (by omega)) (fun b e => hlt b (by rw [e]; omega))⟩
  · obtain ⟨L2, h2⟩ := h.cd
    exact ⟨L2, (h2.only hs.only (hno 2 (by omega) (by omega))).wide (hkeep 2 (by omega)) (fun b e => hlt b (by rw [e]; omega))⟩
  · by_cases hji : j = i
    · subst hji
      rw [upd_same, hpg.len]
      exact nxt_pos (by rw [← hpg.len]; exact h.bd j hj)
    · rw [upd_ne _ _ _ hji]
      exact h.bd j hj

/-- Next of runner i. -/
theorem MS.next (h : MS w0 ca cb m P ths rs zs fin N l zs2 N2 l2 lv wv O w) (hi : i < m) (hl : l2.length ≤ 1000) :
    Calls Try.prog 13 #[ptr (rs i), ptr cb] w fun e w' => e = .returned (.bool (decide ((P i).n ≤ pos (nxt (P i).pr (zs2 i) N2 l2).1))) ∧ ∃ O', MS w0 ca cb m P ths rs zs fin N l (upd zs2 i (nxt (P i).pr (zs2 i) N2 l2).1) (nxt (P i).pr (zs2 i) N2 l2).2.1 (nxt (P i).pr (zs2 i) N2 l2).2.2 lv wv O' w' ∧ Only (fun b => O b = (11 + 2 * i) ∨ O b = 2) w w' := by
  classical
  obtain ⟨L, hc⟩ := h.cd
  obtain ⟨R, hR⟩ := h.rn i hi
  obtain ⟨hpg, hn20⟩ := h.pg i hi
  have hz : (zs2 i).length ≤ 21 := Nat.le_trans (pos_len _) (Nat.le_trans (h.bd2 i hi) (by omega))
  refine (next_walk hR rfl hc (by omega) (by omega) (by omega) (fun b e e2 => by rw [e] at e2; omega) (pg_below hpg h.bel) (fun b e => h.ge b (by rw [e]; omega)) (fun b e => h.ge b (by rw [e]; omega))).mono ?_
  rintro e w' ⟨rfl, FF', FC', L', R', hs⟩
  refine ⟨rfl, fun b => if O b ≠ 0 then O b else if FF' b then (11 + 2 * i) else if FC' b then 2 else 0, ?_, hs.only⟩
  have hold : ∀ b, O b ≠ 0 → (if O b ≠ 0 then O b else if FF' b then (11 + 2 * i) else if FC' b then 2 else 0) = O b := fun b e => by rw [if_pos e]
  have hnew : ∀ b, O b = 0 → (if O b ≠ 0 then O b else if FF' b then (11 + 2 * i) else if FC' b then 2 else 0) = if FF' b then (11 + 2 * i) else if FC' b then 2 else 0 := fun b e => by rw [if_neg (by simpa using e)]
  have hlt : ∀ b, (if O b ≠ 0 then O b else if FF' b then (11 + 2 * i) else if FC' b then 2 else 0) ≠ 0 → b < w'.heap.size := fun b e => by
    by_cases h0 : O b = 0
    · rw [hnew b h0] at e
      by_cases h1 : FF' b
      · exact hs.rn.lt b h1
      · rw [if_neg h1] at e
        by_cases h2 : FC' b
        · exact hs.ce.lt b h2
        · rw [if_neg h2] at e; exact absurd rfl e
    · exact Nat.lt_of_lt_of_le (h.lt b h0) hs.only.size
  have hge : ∀ b, (if O b ≠ 0 then O b else if FF' b then (11 + 2 * i) else if FC' b then 2 else 0) ≠ 0 → w0.heap.size ≤ b := fun b e => by
    by_cases h0 : O b = 0
    · rw [hnew b h0] at e
      by_cases h1 : FF' b
      · rcases hs.newF b h1 with e3 | e3
        · rw [h0] at e3; omega
        · exact Nat.le_trans h.bel.size e3
      · rw [if_neg h1] at e
        by_cases h2 : FC' b
        · rcases hs.newC b h2 with e3 | e3
          · rw [h0] at e3; omega
          · exact Nat.le_trans h.bel.size e3
        · rw [if_neg h2] at e; exact absurd rfl e
    · exact h.ge b h0
  have hkeep : ∀ t, t ≠ 0 → ∀ b, O b = t → (if O b ≠ 0 then O b else if FF' b then (11 + 2 * i) else if FC' b then 2 else 0) = t := fun t ht b e => by rw [hold b (by rw [e]; exact ht), e]
  have hFF : ∀ b, FF' b → (if O b ≠ 0 then O b else if FF' b then (11 + 2 * i) else if FC' b then 2 else 0) = (11 + 2 * i) := fun b e => by
    rcases hs.newF b e with e2 | e2
    · exact hkeep _ (by omega) b e2
    · rw [hnew b (h.free e2), if_pos e]
  have hFC : ∀ b, FC' b → (if O b ≠ 0 then O b else if FF' b then (11 + 2 * i) else if FC' b then 2 else 0) = 2 := fun b e => by
    rcases hs.newC b e with e2 | e2
    · exact hkeep _ (by omega) b e2
    · rw [hnew b (h.free e2), if_neg (fun g => hs.dis b g e), if_pos e]
  have hno : ∀ t, t ≠ (11 + 2 * i) → t ≠ 2 → ∀ b, O b = t → ¬ (O b = (11 + 2 * i) ∨ O b = 2) := fun t h1 h2 b e g => by rw [e] at g; omega
  refine ⟨fun j hj => ((h.mt j hj).only hs.only (hno ((10 + 2 * j)) (by omega) (by omega))).wide (hkeep ((10 + 2 * j)) (by omega)) (fun b e => hge b (by rw [e]; omega)) (fun b e => hlt b (by rw [e]; omega)), fun j hj => ?_, ?_, ⟨L', hs.ce.wide hFC (fun b e => hlt b (by rw [e]; omega))⟩, own_at h.lr fun b e => hs.only.block b (World.ownsRow.lt h.lr b e).2 (hno 3 (by omega) (by omega) b (h.lo b e)), own_at h.rr fun b e => hs.only.block b (World.ownsRow.lt h.rr b e).2 (hno 4 (by omega) (by omega) b (h.wo b e)), fun b e => hkeep 3 (by omega) b (h.lo b e), fun b e => hkeep 4 (by omega) b (h.wo b e), hlt, hge, h.bd, fun j hj => ?_, h.pg, h.bel.trans (hs.only.below (fun b e => h.ge b (by rcases e with e | e <;> rw [e] <;> omega)) h.bel.size)⟩
  · by_cases hji : j = i
    · subst hji
      rw [upd_same]
      exact ⟨R', hs.rn.wide hFF (fun b e => hlt b (by rw [e]; omega))⟩
    · rw [upd_ne _ _ _ hji]
      obtain ⟨R2, h2⟩ := h.rn j hj
      exact ⟨R2, (h2.only hs.only (hno ((11 + 2 * j)) (by omega) (by omega))).wide (hkeep ((11 + 2 * j)) (by omega)) (fun b e => hlt b (by rw [e]; omega))⟩
  · obtain ⟨L2, h2⟩ := h.ce
    exact ⟨L2, (h2.only hs.only (hno 1 (by omega) (by omega))).wide (hkeep 1 (by omega)) (fun b e => hlt b (by rw [e]; omega))⟩
  · by_cases hji : j = i
    · subst hji
      rw [upd_same, hpg.len]
      exact nxt_pos (by rw [← hpg.len]; exact h.bd2 j hj)
    · rw [upd_ne _ _ _ hji]
      exact h.bd2 j hj
/-- The pointers in the slices. -/
theorem MS.atL (h : MS w0 ca cb m P ths rs zs fin N l zs2 N2 l2 lv wv O w) (hi : i < m) : ∃ g c, lv = .slice (some ⟨g, 0, none⟩) m c ∧ O g = 3 ∧ w.cell? ⟨g, i, none⟩ = some (ptr (ths i)) := by
  rcases h.lr.2 with ⟨_, h0⟩ | ⟨g, cap, cur, e, hg, hh, r⟩
  · omega
  · refine ⟨g, cap, e, h.lo g (by rw [e]; rfl), ?_⟩
    have hl := h.lr
    rw [e] at hl
    rw [World.ownsRow.cellAt hl i (by omega)]
    simp [hi]
theorem MS.atR (h : MS w0 ca cb m P ths rs zs fin N l zs2 N2 l2 lv wv O w) (hi : i < m) : ∃ g c, wv = .slice (some ⟨g, 0, none⟩) m c ∧ O g = 4 ∧ w.cell? ⟨g, i, none⟩ = some (ptr (rs i)) := by
  rcases h.rr.2 with ⟨_, h0⟩ | ⟨g, cap, cur, e, hg, hh, r⟩
  · omega
  · refine ⟨g, cap, e, h.wo g (by rw [e]; rfl), ?_⟩
    have hl := h.rr
    rw [e] at hl
    rw [World.ownsRow.cellAt hl i (by omega)]
    simp [hi]
end
end Go.Proofs.Ytbjaojcffhkahaa
