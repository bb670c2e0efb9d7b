/-
  Make's work, gone through from its beginning: each touch of it, and the whole.
-/
import Derived.Test.YtbjaojcffhkahaaWork6
import Derived.Deep.LoopGhost
namespace Go.Proofs.Ytbjaojcffhkahaa
open Go.ChangeShapes Go.WideShapes Go.ChangeAt Go.RowKit
set_option linter.unusedVariables false
set_option linter.unusedSimpArgs false
set_option maxRecDepth 20000

/-- Where work is, behind kk touches that told rs: they were done in earlier Steps, or the last of them in this one. -/
structure SS (w : World) (F FC : Nat → Prop) (a c : Nat) (wk : Value) (pr : List Tc) (zs : List Int) (st : Nat) (N : Int) (l : List Int) (F' FC' : Nat → Prop) (kk : Nat) (rs : List Int) (wr : World) : Prop where
  th : ∃ T' zs' st' ph N' l' L', Th F' wr a wk zs' st' (.slice none 0 0) [] ph kk T' ∧ Ce FC' wr c N' l' L' ∧ ((ph = 1 ∧ zs' = zs ∧ st' = st ∧ N' = N ∧ l' = l ∧ kk ≤ zs.length ∧ rs = zs.take kk) ∨ (ph = 3 ∧ zs' = zs ++ [N] ∧ st' = st + 1 ∧ kk = zs.length + 1 ∧ rs = zs ++ [N] ∧ ∃ t, pr[pos zs]? = some t ∧ N' = t.on N ∧ l' = l ++ t.log N))
  dis : ∀ b, F' b → ¬ FC' b
  newF : ∀ b, F' b → F b ∨ w.heap.size ≤ b
  newC : ∀ b, FC' b → FC b ∨ w.heap.size ≤ b
  only : Only (fun b => F b ∨ FC b) w wr
  lt : ∀ b, F' b ∨ FC' b → b < wr.heap.size
section
variable {F G FC F' FC' : Nat → Prop} {w w' wr : World} {a st ph k c n cp B0 Bp Bc Bi kk : Nat} {zs os l rs : List Int} {wk T O L : Value} {N : Int} {A : Option Addr} {pr : List Tc}
theorem SS.keep (h : SS w F FC a c wk pr zs st N l F' FC' kk rs wr) (ho : Only G wr w') (hG : ∀ b, G b → ¬ F' b ∧ ¬ FC' b) (hG2 : ∀ b, G b → w.heap.size ≤ b) : SS w F FC a c wk pr zs st N l F' FC' kk rs w' := by
  obtain ⟨T', zs', st', ph, N', l', L', h1, h2, h3⟩ := h.th
  exact ⟨⟨T', zs', st', ph, N', l', L', h1.only ho (fun b e g => (hG b g).1 e), h2.only ho (fun b e g => (hG b g).2 e), h3⟩, h.dis, h.newF, h.newC, h.only.trans ho (fun b e => .inr (hG2 b e)), fun b e => Nat.lt_of_lt_of_le (h.lt b e) ho.size⟩

set_option maxHeartbeats 1000000 in
/-- One touch of Make's work. -/
theorem do_make (h : SS w F FC a c wk pr zs st N l F' FC' kk rs wr) (hst : st = zs.length) (hzs : zs.length ≤ 800) (hl : l.length ≤ 10000) (hpg : Pg B0 wr A n pr) (hc : wr.cell? ⟨Bc, 0, none⟩ = some (ptr c)) (hp : wr.cell? ⟨Bp, 0, none⟩ = some (.slice A n cp)) (hi : wr.cell? ⟨Bi, 0, none⟩ = some (.int .i64 (pos rs : Nat))) (hn : n ≤ 900) (hpos : pos rs < n)
    (f1 : ¬ FC' Bc) (f2 : ¬ FC' Bp) (f3 : ¬ FC' Bi) (g1 : ¬ F' Bc) (g2 : ¬ F' Bp) (g3 : ¬ F' Bi) (f4 : ∀ x, FC' x → B0 ≤ x) (g4 : ∀ x, F' x → B0 ≤ x) :
    Calls Try.prog 20 #[ptr a, .func (.func 34) #[] #[ptr Bc, ptr Bp, ptr Bi]] wr fun e w' =>
      (∃ z F2 FC2, e = .returned (.int .i64 z) ∧ SS w F FC a c wk pr zs st N l F2 FC2 (kk + 1) (rs ++ [z]) w' ∧ Only (fun b => F' b ∨ FC' b) wr w' ∧ ∀ b, F2 b ∨ FC2 b → (F' b ∨ FC' b) ∨ wr.heap.size ≤ b) ∨
      (e = .panicked waitE ∧ ∃ T', Th F' w' a wk (zs ++ [N]) (st + 1) (.slice none 0 0) [] 4 kk T' ∧ pos (zs ++ [N]) < n ∧ Aft w F FC c pr zs N l F' (zs ++ [N]) (st + 1) w') := by
  obtain ⟨T', zs', st', ph, N', l', L', h1, h2, ⟨rfl, rfl, rfl, rfl, rfl, hk, rfl⟩ | ⟨rfl, rfl, rfl, rfl, rfl, t, ht, rfl, rfl⟩⟩ := h.th
  · by_cases hlt : kk < zs'.length
    · refine (do_replay _ _ _ h1 hlt (by omega)).mono ?_
      rintro e w1 ⟨rfl, h3, o3⟩
      have hne : ∀ b, FC' b → ¬ b = a := fun b e e2 => h.dis a h1.fa (by subst e2; exact e)
      refine .inl ⟨_, F', FC', rfl, ⟨⟨T', zs', st', 1, N', l', L', h3, h2.only o3 hne, .inl ⟨rfl, rfl, rfl, rfl, rfl, by omega, ?_⟩⟩, h.dis, h.newF, h.newC, h.only.trans o3 (fun b e => ?_), fun b e => Nat.lt_of_lt_of_le (h.lt b e) o3.size⟩, o3.mono fun b e => by subst e; exact .inl h1.fa, fun b e => .inl e⟩
      · rw [take_snoc zs' kk hlt]; simp [List.getD, hlt]
      · subst e
        exact (h.newF _ h1.fa).imp .inl id
    · have hke : kk = zs'.length := by omega
      have hrs : zs'.take kk = zs' := List.take_of_length_le (by omega)
      rw [hrs] at hi hpos ⊢
      have hn2 : n = pr.length := hpg.len
      obtain ⟨t, ht⟩ : ∃ t, pr[pos zs']? = some t := ⟨_, List.getElem?_eq_getElem (by omega)⟩
      have hne : ∀ b, FC' b → ¬ b = a := fun b e e2 => h.dis a h1.fa (by subst e2; exact e)
      refine (do_fresh (S := fun z w2 => z = N' ∧ ∃ FC2 L2, Ce FC2 w2 c (t.on N') (l' ++ t.log N') L2 ∧ Only (fun b => F' b ∨ FC' b) wr w2 ∧ (∀ b, FC2 b → FC' b ∨ wr.heap.size ≤ b) ∧ wr.heap.size ≤ w2.heap.size) (fun W => rfl) h1 hke (by omega) (by omega) ?_).mono ?_
      · intro w1 hT hO
        refine (touch_walk (i := pos zs') (h2.only hO hne) hl (hpg.only hO (fun b e => by subst e; exact g4 _ h1.fa)) (only_read hO (fun e => g1 (by subst e; exact h1.fa)) hc) (only_read hO (fun e => g2 (by subst e; exact h1.fa)) hp) (only_read hO (fun e => g3 (by subst e; exact h1.fa)) hi) ht (by omega) f1 f2 f3 f4).mono ?_
        rintro e w2 ⟨rfl, FC2, L2, hc2, o2, s2⟩
        refine ⟨N', rfl, hT.only o2 h.dis, rfl, FC2, L2, hc2, (hO.mono (G := fun b => F' b ∨ FC' b) fun b e => by subst e; exact .inl h1.fa).then (o2.mono fun b e => .inr e), fun b e => (s2 b e).imp id (Nat.le_trans hO.size), Nat.le_trans hO.size o2.size⟩
      · rintro e w3 ⟨z, w2, F2, T2, rfl, ⟨rfl, FC2, L2, hc2, o2, s2, z2⟩, h3, o3, s3⟩
        have hdd : ∀ b, FC2 b → ¬ F' b := fun b e e2 => by
          rcases s2 b e with e3 | e3
          · exact h.dis b e2 e3
          · have := h.lt b (.inl e2); omega
        have hall : Only (fun b => F' b ∨ FC' b) wr w3 := o2.then (o3.mono fun b e => .inl e)
        refine .inl ⟨z, F2, FC2, rfl, ⟨⟨T2, zs' ++ [z], st' + 1, 3, _, _, L2, h3, hc2.only o3 hdd, .inr ⟨rfl, rfl, rfl, by omega, rfl, t, ht, rfl, rfl⟩⟩, ?_, ?_, ?_, h.only.trans hall ?_, ?_⟩, hall, ?_⟩
        · intro b e e2
          rcases s3 b e with e3 | e3
          · exact hdd b e2 e3
          · have := hc2.lt b e2; omega
        · intro b e
          rcases s3 b e with e3 | e3
          · exact h.newF b e3
          · right; have := h.only.size; omega
        · intro b e
          rcases s2 b e with e3 | e3
          · exact h.newC b e3
          · right; have := h.only.size; omega
        · intro b e
          rcases e with e | e
          · exact (h.newF b e).imp .inl id
          · exact (h.newC b e).imp .inr id
        · intro b e
          rcases e with e | e
          · exact h3.lt b e
          · exact Nat.lt_of_lt_of_le (hc2.lt b e) o3.size
        · intro b e
          rcases e with e | e
          · rcases s3 b e with e3 | e3
            · exact .inl (.inl e3)
            · right; omega
          · exact (s2 b e).imp .inr id
  · refine (do_wait _ _ _ h1 (by simp) (by simp; omega)).mono ?_
    rintro e w1 ⟨rfl, h3, o3⟩
    have hne : ∀ b, FC' b → ¬ b = a := fun b e e2 => h.dis a h1.fa (by subst e2; exact e)
    refine .inr ⟨rfl, T', h3, hpos, ⟨by simp [hst], by rw [nxt_some ht], ⟨FC', L', by rw [nxt_some ht]; exact h2.only o3 hne, h.dis, h.newC⟩, h.newF, h.only.trans o3 fun b e => ?_⟩⟩
    subst e
    exact (h.newF _ h1.fa).imp .inl id
end
end Go.Proofs.Ytbjaojcffhkahaa
