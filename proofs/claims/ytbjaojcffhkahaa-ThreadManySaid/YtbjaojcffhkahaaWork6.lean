/-
  Programs of touches: how far one is, what comes of the next touch; Make's work, gone through from its beginning.
-/
import Derived.Test.YtbjaojcffhkahaaSame6
namespace Go.Proofs.Ytbjaojcffhkahaa
open Go.ChangeShapes Go.WideShapes Go.ChangeAt Go.RowKit
set_option linter.unusedVariables false
set_option linter.unusedSimpArgs false
set_option maxRecDepth 20000

/-- A program of n touches at A, below block B0. -/
structure Pg (B0 : Nat) (w : World) (A : Option Addr) (n : Nat) (l : List Tc) : Prop where
  len : n = l.length
  wf : ∀ t ∈ l, t.wf
  cells : l = [] ∨ ∃ b off, A = some ⟨b, off, none⟩ ∧ b < B0 ∧ ∀ i t, l[i]? = some t → w.cell? ⟨b, off + i * 2, none⟩ = some (.int .u8 (t.d : Int)) ∧ w.cell? ⟨b, off + i * 2 + 1, none⟩ = some (.int .i8 t.n)
section
variable {B0 : Nat} {w w' : World} {A : Option Addr} {n : Nat} {l : List Tc} {G : Nat → Prop}
theorem Pg.only (h : Pg B0 w A n l) (ho : Only G w w') (hG : ∀ b, G b → B0 ≤ b) : Pg B0 w' A n l := by
  refine ⟨h.len, h.wf, ?_⟩
  rcases h.cells with e | ⟨b, off, e, hb, hc⟩
  · exact .inl e
  · exact .inr ⟨b, off, e, hb, fun i t hi => ⟨only_read ho (fun g => by have h1 := hG _ g; simp only at h1; omega) (hc i t hi).1, only_read ho (fun g => by have h1 := hG _ g; simp only at h1; omega) (hc i t hi).2⟩⟩
theorem Pg.at_ (h : Pg B0 w A n l) {i : Nat} (hi : i < n) : ∃ b off, A = some ⟨b, off, none⟩ ∧ b < B0 ∧ ∃ t, l[i]? = some t ∧ t.wf ∧ w.cell? ⟨b, off + i * 2, none⟩ = some (.int .u8 (t.d : Int)) ∧ w.cell? ⟨b, off + i * 2 + 1, none⟩ = some (.int .i8 t.n) := by
  have hil : i < l.length := by rw [← h.len]; exact hi
  rcases h.cells with e | ⟨b, off, e, hb, hc⟩
  · subst e; simp at hil
  · have := hc i _ (List.getElem?_eq_getElem hil)
    exact ⟨b, off, e, hb, l[i], List.getElem?_eq_getElem hil, h.wf _ (List.getElem_mem hil), this.1, this.2⟩
end

/-- How far a program is, of what its touches told. -/
def pos (zs : List Int) : Nat := zs.foldl (fun p z => if z.tmod 2 = 0 then p + 1 else p + 2) 0
theorem pos_snoc (zs : List Int) (z : Int) : pos (zs ++ [z]) = if z.tmod 2 = 0 then pos zs + 1 else pos zs + 2 := by simp [pos]
theorem foldl_ge (zs : List Int) : ∀ p, p ≤ zs.foldl (fun p z => if z.tmod 2 = 0 then p + 1 else p + 2) p := by
  induction zs with
  | nil => intro p; exact Nat.le_refl _
  | cons z zs ih =>
    intro p
    simp only [List.foldl_cons]
    refine Nat.le_trans ?_ (ih _)
    split <;> omega
theorem pos_take (zs : List Int) (k : Nat) : pos (zs.take k) ≤ pos zs := by
  have e : zs = zs.take k ++ zs.drop k := (List.take_append_drop k zs).symm
  have : pos zs = (zs.drop k).foldl (fun p z => if z.tmod 2 = 0 then p + 1 else p + 2) (pos (zs.take k)) := by
    conv => lhs; rw [e]
    unfold pos
    rw [List.foldl_append]
  rw [this]
  exact foldl_ge _ _
theorem pos_len (zs : List Int) : zs.length ≤ pos zs := by
  have : ∀ p, p + zs.length ≤ zs.foldl (fun p z => if z.tmod 2 = 0 then p + 1 else p + 2) p := by
    induction zs with
    | nil => intro p; simp
    | cons z zs ih =>
      intro p
      simp only [List.foldl_cons, List.length_cons]
      refine Nat.le_trans ?_ (ih _)
      split <;> omega
  simpa [pos] using this 0
/-- What was told, the cell's number and its log, behind the next touch. -/
def nxt (pr : List Tc) (zs : List Int) (N : Int) (l : List Int) : List Int × Int × List Int :=
  match pr[pos zs]? with
  | some t => (zs ++ [N], t.on N, l ++ t.log N)
  | none => (zs, N, l)
theorem nxt_some {pr : List Tc} {zs : List Int} {N : Int} {l : List Int} {t : Tc} (h : pr[pos zs]? = some t) : nxt pr zs N l = (zs ++ [N], t.on N, l ++ t.log N) := by unfold nxt; rw [h]
theorem nxt_none {pr : List Tc} {zs : List Int} {N : Int} {l : List Int} (h : pr.length ≤ pos zs) : nxt pr zs N l = (zs, N, l) := by unfold nxt; rw [List.getElem?_eq_none h]

section
variable {F G FC : Nat → Prop} {w w' : World} {a st ph k c n cp B0 Bp Bc Bi : Nat} {zs os l : List Int} {wk T O L : Value} {N : Int} {A : Option Addr} {pr : List Tc}
set_option maxHeartbeats 2000000 in
/-- Make's touch. -/
theorem touch_walk {i : Nat} {t : Tc} (hce : Ce FC w c N l L) (hl : l.length ≤ 10000) (hpg : Pg B0 w A n pr) (hc : w.cell? ⟨Bc, 0, none⟩ = some (ptr c)) (hp : w.cell? ⟨Bp, 0, none⟩ = some (.slice A n cp)) (hi : w.cell? ⟨Bi, 0, none⟩ = some (.int .i64 (i : Int))) (ht : pr[i]? = some t) (hn : n ≤ 1000) (f1 : ¬ FC Bc) (f2 : ¬ FC Bp) (f3 : ¬ FC Bi) (f4 : ∀ x, FC x → B0 ≤ x) :
    Calls Try.prog 34 #[ptr Bc, ptr Bp, ptr Bi] w fun e w' => e = .returned (.int .i64 N) ∧ ∃ F' L', Ce F' w' c (t.on N) (l ++ t.log N) L' ∧ Only FC w w' ∧ ∀ b, F' b → FC b ∨ w.heap.size ≤ b := by
  have hin : i < n := by rw [hpg.len]; exact (List.getElem?_eq_some_iff.1 ht).1
  obtain ⟨b, off, rfl, hbB, t', ht', hwf, p0, p1⟩ := hpg.at_ hin
  have f5 : ¬ FC b := fun e => by have := f4 b e; omega
  obtain rfl : t = t' := by rw [ht] at ht'; exact Option.some.inj ht'
  have i1 : (0 : Int) ≤ (i : Int) := by omega
  have i2 : (i : Int) < (n : Int) := by omega
  have HC : Hid (∀ w', Below w.heap.size w w' → w'.cell? ⟨Bc, 0, none⟩ = some (ptr c) ∧ w'.cell? ⟨Bp, 0, none⟩ = some (.slice (some ⟨b, off, none⟩) n cp) ∧ w'.cell? ⟨Bi, 0, none⟩ = some (.int .i64 (i : Int)) ∧ w'.cell? ⟨b, off + i * 2, none⟩ = some (.int .u8 (t.d : Int)) ∧ w'.cell? ⟨b, off + i * 2 + 1, none⟩ = some (.int .i8 t.n)) := fun w' h => ⟨below_read h hc, below_read h hp, below_read h hi, below_read h p0, below_read h p1⟩
  have HCE := Lib.hid hce
  have HW := Lib.hid hwf
  clear hce hpg hc hp hi ht ht' hwf p0 p1
  go_enter Try.func34, Try.ntmps34
  go_wp2_with fail
  refine region_T (fun _ => false) (fun w' => w'.cell? ⟨Bc, 0, none⟩ = some (ptr c) ∧ w'.cell? ⟨Bp, 0, none⟩ = some (.slice (some ⟨b, off, none⟩) n cp) ∧ w'.cell? ⟨Bi, 0, none⟩ = some (.int .i64 (i : Int)) ∧ w'.cell? ⟨b, off + i * 2, none⟩ = some (.int .u8 (t.d : Int)) ∧ w'.cell? ⟨b, off + i * 2 + 1, none⟩ = some (.int .i8 t.n)) (by kernel_rfl) ?_
  obtain ⟨X0, hX0, hbX0⟩ : ∃ X0 : World, w.drew = X0 ∧ Below w.heap.size w X0 := ⟨_, rfl, (Below.refl _ w).drew⟩
  rw [hX0]
  clear hX0
  have hC := HC.out X0 hbX0
  refine takeT (i := 0) (v := ?_) rfl (by kernel_rfl) (by kernel_rfl) (by kernel_rfl) (by kernel_rfl) (fun _ _ _ h => h) hC (by rfl) ?_ ?_
  rotate_left
  · intro w hSw; (try dsimp only at hSw); go_simp; try (with_reducible rfl)
  try simp only [Act.put, List.setIfInBounds_toArray, List.set_cons_zero, List.set_cons_succ]
  refine takeT (i := 1) (v := ?_) rfl (by kernel_rfl) (by kernel_rfl) (by kernel_rfl) (by kernel_rfl) (fun _ _ _ h => h) hC (by rfl) ?_ ?_
  rotate_left
  · intro w hSw; (try dsimp only at hSw); go_simp; try (with_reducible rfl)
  try simp only [Act.put, List.setIfInBounds_toArray, List.set_cons_zero, List.set_cons_succ]
  refine takeT (i := 2) (v := ?_) rfl (by kernel_rfl) (by kernel_rfl) (by kernel_rfl) (by kernel_rfl) (fun _ _ _ h => h) hC (by rfl) ?_ ?_
  rotate_left
  · intro w hSw; (try dsimp only at hSw); go_simp; try (with_reducible rfl)
  try simp only [Act.put, List.setIfInBounds_toArray, List.set_cons_zero, List.set_cons_succ]
  refine takeT (i := 3) (v := ?_) rfl (by kernel_rfl) (by kernel_rfl) (by kernel_rfl) (by kernel_rfl) (fun _ _ _ h => h) hC (by rfl) ?_ ?_
  rotate_left
  · intro w hSw; (try dsimp only at hSw); go_simp; try (with_reducible rfl)
  try simp only [Act.put, List.setIfInBounds_toArray, List.set_cons_zero, List.set_cons_succ]
  refine takeT (i := 4) (v := ?_) rfl (by kernel_rfl) (by kernel_rfl) (by kernel_rfl) (by kernel_rfl) (fun _ _ _ h => h) hC (by rfl) ?_ ?_
  rotate_left
  · intro w hSw; (try dsimp only at hSw); go_simp; try (with_reducible rfl)
  try simp only [Act.put, List.setIfInBounds_toArray, List.set_cons_zero, List.set_cons_succ]
  refine oneT (i := 5) (by kernel_rfl) rfl (by rfl) (fun K hK => ?_)
  go_simp
  refine (cell_done (HCE.out.below hbX0) HW.out hl).mono ?_
  rintro e X1 ⟨rfl, F', L', h1, o1, s1⟩
  have hC1 : X1.cell? ⟨Bc, 0, none⟩ = some (ptr c) ∧ X1.cell? ⟨Bp, 0, none⟩ = some (.slice (some ⟨b, off, none⟩) n cp) ∧ X1.cell? ⟨Bi, 0, none⟩ = some (.int .i64 (i : Int)) ∧ X1.cell? ⟨b, off + i * 2, none⟩ = some (.int .u8 (t.d : Int)) ∧ X1.cell? ⟨b, off + i * 2 + 1, none⟩ = some (.int .i8 t.n) := ⟨only_read o1 f1 hC.1, only_read o1 f2 hC.2.1, only_read o1 f3 hC.2.2.1, only_read o1 f5 hC.2.2.2.1, only_read o1 f5 hC.2.2.2.2⟩
  refine hK.out _ _ (fun _ => hC1) ?_
  clear hK K
  try simp only [Act.put, List.setIfInBounds_toArray, List.set_cons_zero, List.set_cons_succ]
  refine oneT (i := 6) (by kernel_rfl) rfl (by rfl) (fun K hK => ?_)
  go_simp
  refine hK.out _ _ (fun _ => hC1) ?_
  clear hK K hC hC1
  refine doneT (by kernel_rfl) ?_
  have HE : Hid (∃ F' L', Ce F' X1 c (t.on N) (l ++ t.log N) L' ∧ Only FC w X1 ∧ ∀ b, F' b → FC b ∨ w.heap.size ≤ b) := ⟨F', L', h1, (Only.of_below FC hbX0).then o1, fun b e => (s1 b e).imp id fun e => Nat.le_trans hbX0.size e⟩
  clear h1 o1 s1 hbX0 HC HCE HW
  go_wp2
  go_ret
  exact ⟨rfl, HE.out⟩

/-- What is so of a thread of Make behind a Step: what was told, the cell. -/
structure Aft (w : World) (F FC : Nat → Prop) (c : Nat) (pr : List Tc) (zs : List Int) (N : Int) (l : List Int) (F' : Nat → Prop) (zs' : List Int) (st' : Nat) (w2 : World) : Prop where
  st : st' = zs'.length
  eq : zs' = (nxt pr zs N l).1
  cell : ∃ FC' L', Ce FC' w2 c (nxt pr zs N l).2.1 (nxt pr zs N l).2.2 L' ∧ (∀ b, F' b → ¬ FC' b) ∧ ∀ b, FC' b → FC b ∨ w.heap.size ≤ b
  new : ∀ b, F' b → F b ∨ w.heap.size ≤ b
  only : Only (fun b => F b ∨ FC b) w w2

end
end Go.Proofs.Ytbjaojcffhkahaa
