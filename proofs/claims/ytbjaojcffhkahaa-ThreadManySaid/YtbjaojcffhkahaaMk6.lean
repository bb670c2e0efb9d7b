/-
  The laws' Make; a Step of what it made: the next touch, as the document has it.
-/
import Derived.Test.YtbjaojcffhkahaaWorkC6
namespace Go.Proofs.Ytbjaojcffhkahaa
open Go.ChangeShapes Go.WideShapes Go.ChangeAt Go.RowKit
set_option linter.unusedVariables false
set_option linter.unusedSimpArgs false
set_option maxRecDepth 20000

theorem WEnd.mono {a : Nat} {wk : Value} {RP RP' : RetP} {WP WP' : WaitP} {G G' : Nat → Prop} {w1 w2 : World} {e : Ending} (h : WEnd a wk RP WP G w1 e w2) (hG : ∀ b, G b → G' b) (h1 : ∀ F' ws zs' st', F' a → Only G w1 w2 → RP F' ws zs' st' w2 → RP' F' ws zs' st' w2) (h2 : ∀ F' zs' st', F' a → Only G w1 w2 → WP F' zs' st' w2 → WP' F' zs' st' w2) : WEnd a wk RP' WP' G' w1 e w2 := by
  obtain ⟨ho, ⟨F', T', zs', st', k', ph, A, n, c, ws, r1, r2, r3, r4, r5, r6, r7⟩ | ⟨F', T', zs', st', k', r1, r2, r3⟩⟩ := h
  · exact ⟨ho.mono hG, .inl ⟨F', T', zs', st', k', ph, A, n, c, ws, r1, r2, r3, r4, r5, r6, h1 _ _ _ _ r6.fa ho r7⟩⟩
  · exact ⟨ho.mono hG, .inr ⟨F', T', zs', st', k', r1, r2, h2 _ _ _ r2.fa ho r3⟩⟩

/-- A thread of Make: what its touches told, and whether it is at its end. -/
structure MT (FF : Nat → Prop) (B0 : Nat) (w : World) (a c : Nat) (A : Option Addr) (n cp : Nat) (zs : List Int) (fin : Bool) : Prop where
  ex : ∃ F Bp Bc T O os wk told k, Th F w a wk told zs.length O os 0 k T ∧ ((fin = false ∧ wk = .func (.func 33) #[] #[ptr Bp, ptr Bc] ∧ told = zs ∧ O = .slice none 0 0 ∧ os = [] ∧ (zs = [] ∨ pos zs < n)) ∨ (fin = true ∧ wk = .nilFunc ∧ told = [] ∧ os = zs ∧ n ≤ pos zs)) ∧
    w.cell? ⟨Bc, 0, none⟩ = some (ptr c) ∧ w.cell? ⟨Bp, 0, none⟩ = some (.slice A n cp) ∧ ¬ F Bc ∧ ¬ F Bp ∧ (∀ b, F b → FF b) ∧ FF Bc ∧ FF Bp
  ge : ∀ b, FF b → B0 ≤ b
  lt : ∀ b, FF b → b < w.heap.size
section
variable {FF G FC : Nat → Prop} {w w' wr : World} {a c n cp B0 : Nat} {zs l : List Int} {L : Value} {N : Int} {A : Option Addr} {pr : List Tc} {fin : Bool}
theorem MT.only (h : MT FF B0 w a c A n cp zs fin) (ho : Only G w w') (hd : ∀ b, FF b → ¬ G b) : MT FF B0 w' a c A n cp zs fin := by
  obtain ⟨F, Bp, Bc, T, O, os, wk, told, k, h1, h2, h3, h4, h5, h6, h7, h8, h9⟩ := h.ex
  exact ⟨⟨F, Bp, Bc, T, O, os, wk, told, k, h1.only ho (fun b e => hd b (h7 b e)), h2, only_read ho (hd _ h8) h3, only_read ho (hd _ h9) h4, h5, h6, h7, h8, h9⟩, h.ge, fun b e => Nat.lt_of_lt_of_le (h.lt b e) ho.size⟩
theorem MT.fa (h : MT FF B0 w a c A n cp zs fin) : FF a := by
  obtain ⟨F, Bp, Bc, T, O, os, wk, told, k, h1, h2, h3, h4, h5, h6, h7, h8, h9⟩ := h.ex
  exact h7 a h1.fa
/-- Done, Steps, Out. -/
theorem MT.done (h : MT FF B0 w a c A n cp zs fin) : Calls Try.prog 14 #[ptr a] w fun e w' => e = .returned (.bool fin) ∧ w = w' := by
  obtain ⟨F, Bp, Bc, T, O, os, wk, told, k, h1, ⟨rfl, rfl, rfl, rfl, rfl, hl⟩ | ⟨rfl, rfl, rfl, rfl, hl⟩, h3⟩ := h.ex
  · exact done_no h1
  · exact done_yes h1
theorem MT.steps (h : MT FF B0 w a c A n cp zs fin) : Calls Try.prog 16 #[ptr a] w fun e w' => e = .returned (.int .i64 (zs.length : Int)) ∧ w = w' := by
  obtain ⟨F, Bp, Bc, T, O, os, wk, told, k, h1, h2⟩ := h.ex
  exact steps_walk h1
theorem MT.out (h : MT FF B0 w a c A n cp zs fin) (hl : zs.length ≤ 900) : Calls Try.prog 17 #[ptr a] w (Made 2 w (if fin then zs else [])) := by
  obtain ⟨F, Bp, Bc, T, O, os, wk, told, k, h1, ⟨rfl, rfl, rfl, rfl, rfl, hlv⟩ | ⟨rfl, rfl, rfl, rfl, hlv⟩, h3⟩ := h.ex
  · exact out_walk h1 (by simp)
  · exact out_walk h1 (by simp; omega)
/-- Do and Ask outside of a Step. -/
theorem MT.doOut (h : MT FF B0 w a c A n cp zs fin) (f : Fn) (first cap : Array Value) : Calls Try.prog 20 #[ptr a, .func f first cap] w fun e w' => e = .returned (.int .i64 0) ∧ w = w' := by
  obtain ⟨F, Bp, Bc, T, O, os, wk, told, k, h1, h2⟩ := h.ex
  exact do_outside f first cap h1
theorem MT.askOut (h : MT FF B0 w a c A n cp zs fin) (f : Fn) (first cap : Array Value) : Calls Try.prog 22 #[ptr a, .func f first cap] w fun e w' => e = .returned (.bool false) ∧ Below w.heap.size w w' := by
  obtain ⟨F, Bp, Bc, T, O, os, wk, told, k, h1, h2⟩ := h.ex
  exact ask_outside f first cap h1

/-- Make. -/
theorem make_walk (A : Option Addr) (n cp c B0 : Nat) (w : World) (hB : B0 ≤ w.heap.size) : Calls Try.prog 11 #[ptr c, .slice A n cp] w fun e w' => ∃ a, e = .returned (ptr a) ∧ MT (fun b => w.heap.size ≤ b ∧ b < w'.heap.size) B0 w' a c A n cp [] false ∧ Below w.heap.size w w' := by
  have hmf := mk_fn
  obtain ⟨W1, hW1, b1, c1⟩ : ∃ W1 : World, w.alloc (.cells #[ptr c] 25) = W1 ∧ Below w.heap.size w W1 ∧ W1.cell? ⟨w.heap.size, 0, none⟩ = some (ptr c) := ⟨_, rfl, below_new _ _, c_new rfl rfl⟩
  have z1 : W1.heap.size = w.heap.size + 1 := by rw [← hW1]; simp
  obtain ⟨W2, hW2, b2, c2⟩ : ∃ W2 : World, W1.alloc (.cells #[.slice A n cp] 22) = W2 ∧ Below W1.heap.size W1 W2 ∧ W2.cell? ⟨w.heap.size + 1, 0, none⟩ = some (.slice A n cp) := ⟨_, rfl, below_new _ _, c_new z1 rfl⟩
  have z2 : W2.heap.size = w.heap.size + 2 := by rw [← hW2]; simp [z1]
  have d1 := below_read b2 c1
  have hn := new_func (.func 33) #[] #[ptr (w.heap.size + 1), ptr w.heap.size] W2
  have HZ := Lib.hid z2
  have HC := Lib.hid (And.intro c2 d1)
  have HB := Lib.hid (b1.trans (b2.mono b1.size))
  clear b1 b2 c1 c2 d1 z2
  go_enter Try.func11, Try.ntmps11
  go_wp2_with fail
  (try rw [hW1]); (try rw [hW2])
  refine hn.mono ?_
  rintro e w3 ⟨rfl, h3, b3⟩
  have z2 := HZ.out
  have HE : Hid (MT (fun b => w.heap.size ≤ b ∧ b < w3.heap.size) B0 w3 W2.heap.size c A n cp [] false ∧ Below w.heap.size w w3) :=
    ⟨⟨⟨_, w.heap.size + 1, w.heap.size, _, _, _, _, _, _, h3, .inl ⟨rfl, rfl, rfl, rfl, rfl, .inl rfl⟩, below_read b3 HC.out.2, below_read b3 HC.out.1, by omega, by omega, fun b e => by subst e; exact ⟨by omega, h3.lt _ rfl⟩, ⟨by omega, World.block_lt_of_cell? w3 _ (below_read b3 HC.out.2)⟩, ⟨by omega, World.block_lt_of_cell? w3 _ (below_read b3 HC.out.1)⟩⟩, fun b e => Nat.le_trans hB e.1, fun b e => e.2⟩, HB.out.trans (b3.mono (by omega))⟩
  clear h3 b3 hn hW1 hW2 z2 HZ
  generalize W2.heap.size = q at *
  go_wp2
  go_ret
  exact ⟨q, rfl, HE.out.1, HE.out.2⟩

/-- What is behind a Step. -/
structure Stepped (FF FC : Nat → Prop) (B0 : Nat) (w : World) (a c : Nat) (A : Option Addr) (n cp : Nat) (pr : List Tc) (zs : List Int) (N : Int) (l : List Int) (FF' FC' : Nat → Prop) (L' : Value) (w' : World) : Prop where
  mt : MT FF' B0 w' a c A n cp (nxt pr zs N l).1 (decide (n ≤ pos (nxt pr zs N l).1))
  ce : Ce FC' w' c (nxt pr zs N l).2.1 (nxt pr zs N l).2.2 L'
  dis : ∀ b, FF' b → ¬ FC' b
  newF : ∀ b, FF' b → FF b ∨ w.heap.size ≤ b
  newC : ∀ b, FC' b → FC b ∨ w.heap.size ≤ b
  only : Only (fun b => FF b ∨ FC b) w w'

set_option maxHeartbeats 1000000 in
theorem step_make (h : MT FF B0 w a c A n cp zs fin) (hce : Ce FC w c N l L) (hl : l.length ≤ 10000) (hzs : zs.length ≤ 800) (hn : n ≤ 800) (hpg : Pg B0 w A n pr) (hd : ∀ b, FF b → ¬ FC b) (hC : ∀ b, FC b → B0 ≤ b) (hB : B0 ≤ w.heap.size) :
    Calls Try.prog 12 #[ptr a] w fun e w' => e = .returned (.bool (decide (n ≤ pos (nxt pr zs N l).1))) ∧ ∃ FF' FC' L', Stepped FF FC B0 w a c A n cp pr zs N l FF' FC' L' w' := by
  obtain ⟨F, Bp, Bc, T, O, os, wk, told, k, h1, ⟨rfl, rfl, rfl, rfl, rfl, hlv⟩ | ⟨rfl, rfl, rfl, rfl, hlv⟩, h3, h4, h5, h6, h7, h8, h9⟩ := h.ex
  · refine (step_walk (G := fun b => F b ∨ FC b) (args := #[ptr a, ptr Bp, ptr Bc])
      (RP := fun F' ws zs' st' w2 => F' a ∧ ∃ w1, Only (· = a) w w1 ∧ ws = zs' ∧ n ≤ pos zs' ∧ Aft w1 F FC c pr told N l F' zs' st' w2)
      (WP := fun F' zs' st' w2 => F' a ∧ ∃ w1, Only (· = a) w w1 ∧ pos zs' < n ∧ Aft w1 F FC c pr told N l F' zs' st' w2) rfl (fun W => rfl) h1 (fun b e => e.elim (h1.lt b) (hce.lt b)) ?_).mono ?_
    · intro w1 hT hO
      have hne : ∀ b, FC b → ¬ b = a := fun b e e2 => by subst e2; exact hd b (h7 b h1.fa) e
      refine (work_walk hT rfl hlv hzs (hce.only hO hne) hl (hpg.only hO (fun b e => by subst e; exact h.ge _ (h7 _ h1.fa))) (only_read hO (fun e => h5 (by subst e; exact h1.fa)) h3) (only_read hO (fun e => h6 (by subst e; exact h1.fa)) h4) hn (fun b e => hd b (h7 b e)) (hd _ h8) (hd _ h9) h5 h6 hC (fun b e => h.ge b (h7 b e)) (Nat.le_trans hB hO.size)).mono ?_
      intro e w2 hw
      exact hw.mono (fun b e => e) (fun F' ws zs' st' hf _ hr => ⟨hf, w1, hO, hr⟩) (fun F' zs' st' hf _ hr => ⟨hf, w1, hO, hr⟩)
    · have lBc : Bc < w.heap.size := h.lt _ h8
      have lBp : Bp < w.heap.size := h.lt _ h9
      rintro e w' (⟨x, F', ws, zs', st', k', F'', O', rfl, ⟨hfa, w1, hO, rfl, hp, haft⟩, hT, hO2, hs⟩ | ⟨x, F', T', zs', st', k', rfl, ⟨hfa, w1, hO, hp, haft⟩, hT, hO2⟩)
      · obtain ⟨rfl, heq, ⟨FC', L', hce', hdis, hnc⟩, hnf, honly⟩ := haft
        have hsz := hO.size
        have hall : Only (fun b => F b ∨ FC b) w w' := ((hO.mono (G := fun b => F b ∨ FC b) fun b e => by subst e; exact .inl h1.fa).then honly).trans hO2 (fun b e => .inl (.inl (by subst e; exact h1.fa)))
        have xz := honly.size
        have hF : ∀ b, F'' b → F b ∨ w.heap.size ≤ b := fun b e => by
          rcases hs b e with e | e
          · exact (hnf b e).imp id (Nat.le_trans hsz)
          · right; omega
        have hdF : ∀ b, F'' b → ¬ FC' b := fun b e e2 => by
          rcases hs b e with e | e
          · exact hdis b e e2
          · have := hce'.lt b e2; omega
        have hdec : decide (n ≤ pos ws) = true := by simp [hp]
        have hFC : ∀ b, FC' b → FC b ∨ w.heap.size ≤ b := fun b e => (hnc b e).imp id (Nat.le_trans hsz)
        have nC1 : ¬ FC' Bc := fun e => (hFC _ e).elim (hd _ h8) (by omega)
        have nC2 : ¬ FC' Bp := fun e => (hFC _ e).elim (hd _ h9) (by omega)
        have nF1 : ¬ F'' Bc := fun e => (hF _ e).elim h5 (by omega)
        have nF2 : ¬ F'' Bp := fun e => (hF _ e).elim h6 (by omega)
        have q1 := only_read hall (fun e => e.elim h5 (hd _ h8)) h3
        have q2 := only_read hall (fun e => e.elim h6 (hd _ h9)) h4
        refine ⟨by rw [← heq, hdec], fun b => F'' b ∨ b = Bc ∨ b = Bp, FC', L', ⟨?_, hce'.only hO2 (fun b e e2 => hdis a hfa (by subst e2; exact e)), ?_, ?_, hFC, hall.mono fun b e => e.imp (h7 b) id⟩⟩
        · rw [← heq, hdec]
          refine ⟨⟨F'', Bp, Bc, _, _, _, _, _, k', hT, .inr ⟨rfl, rfl, rfl, rfl, hp⟩, q1, q2, nF1, nF2, fun b e => .inl e, .inr (.inl rfl), .inr (.inr rfl)⟩, ?_, ?_⟩
          · rintro b (e | rfl | rfl)
            · exact (hF b e).elim (fun e => h.ge b (h7 b e)) (by omega)
            · exact h.ge _ h8
            · exact h.ge _ h9
          · rintro b (e | rfl | rfl)
            · exact hT.lt b e
            · exact World.block_lt_of_cell? w' _ q1
            · exact World.block_lt_of_cell? w' _ q2
        · rintro b (e | rfl | rfl)
          · exact hdF b e
          · exact nC1
          · exact nC2
        · rintro b (e | rfl | rfl)
          · exact (hF b e).imp (h7 b) id
          · exact .inl h8
          · exact .inl h9
      · obtain ⟨rfl, heq, ⟨FC', L', hce', hdis, hnc⟩, hnf, honly⟩ := haft
        have hsz := hO.size
        have hall : Only (fun b => F b ∨ FC b) w w' := ((hO.mono (G := fun b => F b ∨ FC b) fun b e => by subst e; exact .inl h1.fa).then honly).trans hO2 (fun b e => .inl (.inl (by subst e; exact h1.fa)))
        have xz := honly.size
        have hF : ∀ b, F' b → F b ∨ w.heap.size ≤ b := fun b e => (hnf b e).imp id (Nat.le_trans hsz)
        have hdF := hdis
        have hdec : decide (n ≤ pos zs') = false := by simp; omega
        have hFC : ∀ b, FC' b → FC b ∨ w.heap.size ≤ b := fun b e => (hnc b e).imp id (Nat.le_trans hsz)
        have nC1 : ¬ FC' Bc := fun e => (hFC _ e).elim (hd _ h8) (by omega)
        have nC2 : ¬ FC' Bp := fun e => (hFC _ e).elim (hd _ h9) (by omega)
        have nF1 : ¬ F' Bc := fun e => (hF _ e).elim h5 (by omega)
        have nF2 : ¬ F' Bp := fun e => (hF _ e).elim h6 (by omega)
        have q1 := only_read hall (fun e => e.elim h5 (hd _ h8)) h3
        have q2 := only_read hall (fun e => e.elim h6 (hd _ h9)) h4
        refine ⟨by rw [← heq, hdec], fun b => F' b ∨ b = Bc ∨ b = Bp, FC', L', ⟨?_, hce'.only hO2 (fun b e e2 => hdis a hfa (by subst e2; exact e)), ?_, ?_, hFC, hall.mono fun b e => e.imp (h7 b) id⟩⟩
        · rw [← heq, hdec]
          refine ⟨⟨F', Bp, Bc, _, _, _, _, _, k', hT, .inl ⟨rfl, rfl, rfl, rfl, rfl, .inr hp⟩, q1, q2, nF1, nF2, fun b e => .inl e, .inr (.inl rfl), .inr (.inr rfl)⟩, ?_, ?_⟩
          · rintro b (e | rfl | rfl)
            · exact (hF b e).elim (fun e => h.ge b (h7 b e)) (by omega)
            · exact h.ge _ h8
            · exact h.ge _ h9
          · rintro b (e | rfl | rfl)
            · exact hT.lt b e
            · exact World.block_lt_of_cell? w' _ q1
            · exact World.block_lt_of_cell? w' _ q2
        · rintro b (e | rfl | rfl)
          · exact hdF b e
          · exact nC1
          · exact nC2
        · rintro b (e | rfl | rfl)
          · exact (hF b e).imp (h7 b) id
          · exact .inl h8
          · exact .inl h9
  · have hnn : nxt pr os N l = (os, N, l) := nxt_none (by have := hpg.len; omega)
    have hdec : decide (n ≤ pos os) = true := by simp [hlv]
    refine (step_done h1).mono ?_
    rintro e w' ⟨rfl, rfl⟩
    refine ⟨by rw [hnn, hdec], FF, FC, L, ⟨by rw [hnn, hdec]; exact h, by rw [hnn]; exact hce, hd, fun b e => .inl e, fun b e => .inl e, Only.refl _ _⟩⟩
end
end Go.Proofs.Ytbjaojcffhkahaa
