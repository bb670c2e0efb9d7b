/-
  Threads of Make and the document's runners: one more of each.
-/
import Derived.Test.YtbjaojcffhkahaaMs6
namespace Go.Proofs.Ytbjaojcffhkahaa
open Go.ChangeShapes Go.WideShapes Go.ChangeAt Go.RowKit
set_option linter.unusedVariables false
set_option linter.unusedSimpArgs false
set_option maxRecDepth 20000

theorem own_raise {w : World} {base : Nat} {e : TypeId} {size : Nat} {v : Value} {n : Nat} {xs : List Value} (h : w.ownsRow 0 e size v n xs) (hb : ∀ b, v.ownBlock = some b → base ≤ b) : w.ownsRow base e size v n xs := by
  obtain ⟨h1, h2⟩ := h
  refine ⟨h1, ?_⟩
  rcases h2 with h2 | ⟨g, cap, cur, e, hg, r⟩
  · exact .inl h2
  · exact .inr ⟨g, cap, cur, e, hb g (by subst e; rfl), r⟩
theorem range_upd (f : Nat → Nat) (k x : Nat) : (List.range (k + 1)).map (fun i => ptr (upd f k x i)) = (List.range k).map (fun i => ptr (f i)) ++ [ptr x] := by
  rw [List.range_succ, List.map_append]
  congr 1
  · apply List.map_congr_left
    intro i hi
    rw [upd_ne _ _ _ (by have := List.mem_range.1 hi; omega)]
  · simp [upd_same]

section
variable {w0 w w2 w3 w4 w5 w6 w7 : World} {ca cb k : Nat} {P : Nat → Ps} {ths rs : Nat → Nat} {N : Int} {lv wv lv' wv' : Value} {O : Nat → Nat} {a r : Nat} {p : Ps}
theorem MS.grow (h : MS w0 ca cb k P ths rs (fun _ => []) (fun _ => false) N [] (fun _ => []) N [] lv wv O w) (hpg : Pg w0.heap.size w0 p.A p.n p.pr) (hp20 : p.n ≤ 20)
    (hm : MT (fun b => w.heap.size ≤ b ∧ b < w2.heap.size) w0.heap.size w2 a ca p.A p.n p.cp [] false) (b2 : Below w.heap.size w w2) (b3 : Below w2.heap.size w2 w3)
    (r4 : w4.ownsRow 0 29 1 lv' (k + 1) ((List.range k).map (fun i => ptr (ths i)) ++ [ptr a])) (g4 : w3.grownBy w4 lv.ownBlock) (l4 : ∀ b, lv'.ownBlock = some b → lv.ownBlock = some b ∨ w3.heap.size ≤ b)
    (hr : w4.heap.size = r) (h5 : Rn (fun b => b = r) w5 r p.A p.n p.cp 0 [] (.slice none 0 0)) (b5 : Below w4.heap.size w4 w5) (b6 : Below w5.heap.size w5 w6)
    (r7 : w7.ownsRow 0 31 1 wv' (k + 1) ((List.range k).map (fun i => ptr (rs i)) ++ [ptr r])) (g7 : w6.grownBy w7 wv.ownBlock) (l7 : ∀ b, wv'.ownBlock = some b → wv.ownBlock = some b ∨ w6.heap.size ≤ b) :
    ∃ O', MS w0 ca cb (k + 1) (upd P k p) (upd ths k a) (upd rs k r) (fun _ => []) (fun _ => false) N [] (fun _ => []) N [] lv' wv' O' w7 := by
  classical
  have z2 := b2.size
  have z3 := b3.size
  have z4 := g4.size
  have z5 := b5.size
  have z6 := b6.size
  have z7 := g7.size
  have zr : r < w5.heap.size := h5.lt r rfl
  have hlo : ∀ b, lv.ownBlock = some b → b < w.heap.size := fun b e => h.lt b (by rw [h.lo b e]; omega)
  have hwo : ∀ b, wv.ownBlock = some b → b < w.heap.size := fun b e => h.lt b (by rw [h.wo b e]; omega)
  have o47 : Only (fun b => wv.ownBlock = some b) w4 w7 := ((Only.of_below _ b5).then (Only.of_below _ b6)).then (Only.grown _ g7 fun b e => e)
  have o27 : Only (fun b => lv.ownBlock = some b ∨ wv.ownBlock = some b) w2 w7 := ((Only.of_below _ b3).then (Only.grown _ g4 fun b e => .inl e)).then (o47.mono fun b e => .inr e)
  have o7 : Only (fun b => lv.ownBlock = some b ∨ wv.ownBlock = some b) w w7 := (Only.of_below _ b2).then o27
  have o57 : Only (fun b => wv.ownBlock = some b) w5 w7 := (Only.of_below _ b6).then (Only.grown _ g7 fun b e => e)
  have hno : ∀ t, t ≠ 3 → t ≠ 4 → ∀ b, O b = t → ¬ (lv.ownBlock = some b ∨ wv.ownBlock = some b) := fun t h1 h2 b e g => by
    rcases g with g | g
    · have := h.lo b g; omega
    · have := h.wo b g; omega
  have hl7 : ∀ b, lv'.ownBlock = some b → b < w4.heap.size := fun b e => (World.ownsRow.lt r4 b e).2
  have hw7 : ∀ b, wv'.ownBlock = some b → b < w7.heap.size := fun b e => (World.ownsRow.lt r7 b e).2
  obtain ⟨O', hO⟩ : ∃ O' : Nat → Nat, ∀ b, O' b = if O b ≠ 0 then O b else if lv'.ownBlock = some b then 3 else if wv'.ownBlock = some b then 4 else if b = r then 11 + 2 * k else if w.heap.size ≤ b ∧ b < w2.heap.size then 10 + 2 * k else 0 := ⟨_, fun b => rfl⟩
  have hkeep : ∀ t, t ≠ 0 → ∀ b, O b = t → O' b = t := fun t ht b e => by rw [hO, if_pos (by rw [e]; exact ht), e]
  have h3 : ∀ b, lv'.ownBlock = some b → O' b = 3 := fun b e => by
    rcases l4 b e with e2 | e2
    · exact hkeep 3 (by omega) b (h.lo b e2)
    · rw [hO, if_neg (by simp [h.free (b := b) (by omega)]), if_pos e]
  have h4 : ∀ b, wv'.ownBlock = some b → O' b = 4 := fun b e => by
    rcases l7 b e with e2 | e2
    · exact hkeep 4 (by omega) b (h.wo b e2)
    · rw [hO, if_neg (by simp [h.free (b := b) (by omega)]), if_neg (fun g => by have := hl7 b g; omega), if_pos e]
  have hR : O' r = 11 + 2 * k := by
    rw [hO, if_neg (by simp [h.free (b := r) (by omega)]), if_neg (fun g => by have := hl7 r g; omega), if_neg (fun g => by
      rcases l7 r g with e | e
      · have := hwo r e; omega
      · omega), if_pos rfl]
  have hT : ∀ b, w.heap.size ≤ b ∧ b < w2.heap.size → O' b = 10 + 2 * k := fun b e => by
    obtain ⟨e1, e2⟩ := e
    rw [hO, if_neg (by simp [h.free (b := b) e1]), if_neg (fun g => by
      rcases l4 b g with e | e
      · have := hlo b e; omega
      · omega), if_neg (fun g => by
      rcases l7 b g with e | e
      · have := hwo b e; omega
      · omega), if_neg (by omega), if_pos ⟨e1, e2⟩]
  have hlt : ∀ b, O' b ≠ 0 → b < w7.heap.size := fun b e => by
    rw [hO] at e
    by_cases h0 : O b = 0
    · rw [if_neg (by simpa using h0)] at e
      by_cases h1 : lv'.ownBlock = some b
      · have := hl7 b h1; omega
      · rw [if_neg h1] at e
        by_cases h2 : wv'.ownBlock = some b
        · exact hw7 b h2
        · rw [if_neg h2] at e
          by_cases h3 : b = r
          · omega
          · rw [if_neg h3] at e
            by_cases h4 : w.heap.size ≤ b ∧ b < w2.heap.size
            · omega
            · rw [if_neg h4] at e; exact absurd rfl e
    · have := h.lt b h0; omega
  have hge : ∀ b, O' b ≠ 0 → w0.heap.size ≤ b := fun b e => by
    have hb0 := h.bel.size
    by_cases h0 : O b = 0
    · rcases Nat.lt_or_ge b w.heap.size with e2 | e2
      · exfalso
        rw [hO, if_neg (by simpa using h0)] at e
        rw [if_neg (fun g => by
          rcases l4 b g with e | e
          · have := h.lo b e; omega
          · omega), if_neg (fun g => by
          rcases l7 b g with e | e
          · have := h.wo b e; omega
          · omega), if_neg (by omega), if_neg (by omega)] at e
        exact absurd rfl e
      · omega
    · exact h.ge b h0
  refine ⟨O', ⟨fun i hi => ?_, fun i hi => ?_, ?_, ?_, ?_, ?_, h3, h4, hlt, hge, fun i hi => by simp [pos], fun i hi => by simp [pos], fun i hi => ?_, h.bel.trans (o7.below (fun b e => by
    rcases e with e | e
    · exact h.ge b (by rw [h.lo b e]; omega)
    · exact h.ge b (by rw [h.wo b e]; omega)) h.bel.size)⟩⟩
  · by_cases hik : i = k
    · subst hik
      rw [upd_same, upd_same]
      exact (hm.only o27 (fun b e g => by
        rcases g with g | g
        · have := hlo b g; omega
        · have := hwo b g; omega)).wide hT (fun b e => hge b (by rw [e]; omega)) (fun b e => hlt b (by rw [e]; omega))
    · rw [upd_ne _ _ _ hik, upd_ne _ _ _ hik]
      exact ((h.mt i (by omega)).only o7 (hno (10 + 2 * i) (by omega) (by omega))).wide (hkeep (10 + 2 * i) (by omega)) (fun b e => hge b (by rw [e]; omega)) (fun b e => hlt b (by rw [e]; omega))
  · by_cases hik : i = k
    · subst hik
      rw [upd_same, upd_same]
      exact ⟨_, (h5.only o57 (fun b e g => by have := hwo b g; omega)).wide (fun b e => by rw [e]; exact hR) (fun b e => hlt b (by rw [e]; omega))⟩
    · rw [upd_ne _ _ _ hik, upd_ne _ _ _ hik]
      obtain ⟨R, hRR⟩ := h.rn i (by omega)
      exact ⟨R, (hRR.only o7 (hno (11 + 2 * i) (by omega) (by omega))).wide (hkeep (11 + 2 * i) (by omega)) (fun b e => hlt b (by rw [e]; omega))⟩
  · obtain ⟨L, hL⟩ := h.ce
    exact ⟨L, (hL.only o7 (hno 1 (by omega) (by omega))).wide (hkeep 1 (by omega)) (fun b e => hlt b (by rw [e]; omega))⟩
  · obtain ⟨L, hL⟩ := h.cd
    exact ⟨L, (hL.only o7 (hno 2 (by omega) (by omega))).wide (hkeep 2 (by omega)) (fun b e => hlt b (by rw [e]; omega))⟩
  · rw [range_upd]
    refine own_raise (own_at r4 fun b e => o47.block b (hl7 b e) (fun g => ?_)) (fun b e => hge b (by rw [h3 b e]; omega))
    rcases l4 b e with e2 | e2
    · have h1 := h.lo b e2; have h2 := h.wo b g; omega
    · have := hwo b g; omega
  · rw [range_upd]
    exact own_raise r7 (fun b e => hge b (by rw [h4 b e]; omega))
  · by_cases hik : i = k
    · subst hik
      rw [upd_same]
      exact ⟨hpg, hp20⟩
    · rw [upd_ne _ _ _ hik]
      exact h.pg i (by omega)

/-- Two cells, no thread. -/
theorem MS.new (w1 : World) (N : Int) (hb : Below w0.heap.size w0 w1) (P : Nat → Ps) (ths rs : Nat → Nat) : ∃ O, MS w0 w1.heap.size (w1.heap.size + 1) 0 P ths rs (fun _ => []) (fun _ => false) N [] (fun _ => []) N [] (.slice none 0 0) (.slice none 0 0) O ((w1.alloc (.cells #[.int .i64 N, .slice none 0 0] ceT)).alloc (.cells #[.int .i64 N, .slice none 0 0] ceT)) := by
  have z1 : (w1.alloc (.cells #[.int .i64 N, .slice none 0 0] ceT)).heap.size = w1.heap.size + 1 := by simp
  have z2 : ((w1.alloc (.cells #[.int .i64 N, .slice none 0 0] ceT)).alloc (.cells #[.int .i64 N, .slice none 0 0] ceT)).heap.size = w1.heap.size + 2 := by simp
  have hs := hb.size
  have h1 := (ce_new w1 N).below (below_new _ (.cells #[.int .i64 N, .slice none 0 0] ceT))
  have h2 := ce_new (w1.alloc (.cells #[.int .i64 N, .slice none 0 0] ceT)) N
  rw [z1] at h2
  refine ⟨fun b => if b = w1.heap.size then 1 else if b = w1.heap.size + 1 then 2 else 0, ⟨fun i hi => by omega, fun i hi => by omega, ⟨_, h1.wide (fun b e => by simp [e]) (fun b e => ?_)⟩, ⟨_, h2.wide (fun b e => by simp [e]) (fun b e => ?_)⟩, World.ownsRow_nil _ _ _ _, World.ownsRow_nil _ _ _ _, fun b e => (by cases e), fun b e => (by cases e), fun b e => ?_, fun b e => ?_, fun i hi => by omega, fun i hi => by omega, fun i hi => by omega, (hb.alloc hs _).alloc (by omega) _⟩⟩
  · rw [z2]; split at e
    · omega
    · split at e <;> omega
  · rw [z2]; split at e
    · omega
    · split at e <;> omega
  · rw [z2]; split at e
    · omega
    · split at e
      · omega
      · exact absurd rfl e
  · split at e
    · omega
    · split at e
      · omega
      · exact absurd rfl e
end
end Go.Proofs.Ytbjaojcffhkahaa
