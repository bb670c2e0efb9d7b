/-
  What arena's Free returns.
-/
import Derived.Test.YtmnbdhngadjmiaaAr8
namespace Go.Proofs.Ytmnbdhngadjmiaa
open Go.ChangeShapes Go.WideShapes Go.ChangeAt Go.RowKit
set_option linter.unusedVariables false
set_option linter.unusedSimpArgs false
set_option maxRecDepth 20000

/-- A place that isn't used any more. -/
def Pa.gone (c : Nat) : Pa := ⟨false, c, Nd.nil, [], 0, false⟩
def As.free (S : As) (i : Nat) (p : Pa) : As := { S with pls := S.pls.set i (Pa.gone p.cnt), fr := S.fr ++ [i] }

section
variable {F : Nat → Prop} {w : World} {a : Nat} {S : As} {i : Nat} {p : Pa} {r : Int}
/-- All of a place is written anew, with nothing in it. -/
theorem Ar.wipe {l : List (Pa × Vs)} {v : Vs} {g c : Nat} {Q : Value} (h : Ar false F w a S l (.slice (some ⟨g, 0, none⟩) l.length c) Q) (hx : l[i]? = some (p, v)) :
    ∃ W : World, ((((((((((w.setCell ⟨g, i * 10, none⟩ (.bool false)).setCell ⟨g, i * 10 + 1, none⟩ (.int .u32 (p.cnt : Int))).setCell ⟨g, i * 10 + 2, none⟩ (.bool false)).setCell ⟨g, i * 10 + 3, none⟩ (.bool false)).setCell ⟨g, i * 10 + 4, none⟩ (.slice none 0 0)).setCell ⟨g, i * 10 + 5, none⟩ (.slice none 0 0)).setCell ⟨g, i * 10 + 6, none⟩ (.slice none 0 0)).setCell ⟨g, i * 10 + 7, none⟩ (.slice none 0 0)).setCell ⟨g, i * 10 + 8, none⟩ (.int .i64 0)).setCell ⟨g, i * 10 + 9, none⟩ (.bool false)) = W ∧
      Ar false F W a { S with pls := S.pls.set i (Pa.gone p.cnt) } (l.set i (Pa.gone p.cnt, Vs.nil)) (.slice (some ⟨g, 0, none⟩) l.length c) Q ∧ Only F w W := by
  have hg := grown_ten w g (i * 10) (.bool false) (.int .u32 (p.cnt : Int)) (.bool false) (.bool false) (.slice none 0 0) (.slice none 0 0) (.slice none 0 0) (.slice none 0 0) (.int .i64 0) (.bool false)
  have hr := own_ten (y := (Pa.gone p.cnt, Vs.nil)) h.row hx (.bool false) (.int .u32 (p.cnt : Int)) (.bool false) (.bool false) (.slice none 0 0) (.slice none 0 0) (.slice none 0 0) (.slice none 0 0) (.int .i64 0) (.bool false) rfl
  refine ⟨_, rfl, ?_, Only.grown F hg fun b e => by injection e with e; subst e; exact h.frow g rfl⟩
  exact h.setPl hx (y := (Pa.gone p.cnt, Vs.nil)) hr hg (fun _ hb => hb) h.lt (PaM.nil _ _ _ rfl rfl rfl rfl) (fun b e => by cases e) (fun b e => by cases e)
/-- A place's number is put behind those that were freed. -/
theorem Ar.pushQ {d : Bool} {l : List (Pa × Vs)} {P Q : Value} (h : Ar d F w a S l P Q) (ty : TypeId) (s z : Nat) (hs : w.cell? ⟨s, 0, none⟩ = some (.int .i64 (z : Int))) (hl : S.fr.length ≤ 100000) :
    ∃ Q' w', (Builtin.append_ #[88, 88] ty #[Q, .slice (some ⟨s, 0, none⟩) 1 1]).run Try.prog w = .ok Q' w' ∧ (∃ A n c, Q' = .slice A n c) ∧ w'.heap[a]? = w.heap[a]? ∧ Only F w (w'.setCell ⟨a, hdQ d, none⟩ Q') ∧
      Ar d (fun b => F b ∨ Q'.ownBlock = some b) (w'.setCell ⟨a, hdQ d, none⟩ Q') a { S with fr := S.fr ++ [z] } l P Q' ∧ ∀ b, Q'.ownBlock = some b → F b ∨ w.heap.size ≤ b := by
  obtain ⟨Q', w', hr, hq, hg, hb⟩ := h.que.push ty s z hs hl
  obtain ⟨n1, n2, n3, n4, n5⟩ := plT_ne d
  obtain ⟨m1, m2, m3, m4, m5⟩ := hdT_ne d
  have hQty : ∀ b, Q.ownBlock = some b → Ty w b 3 := fun b e => h.que.ty e
  have ho : ∀ b t, Ty w b t → 3 ≠ t → b < w.heap.size → w'.heap[b]? = w.heap[b]? := fun b t ht hne hbl => hg.block b hbl (fun e => hne ((hQty b e.symm).one ht))
  have ha := ho a _ h.tyA (Ne.symm m2) h.lta
  have hlt' : ∀ b, Q'.ownBlock = some b → b < w'.heap.size := fun b e => by obtain ⟨cur, hc⟩ := hq.ty e; exact (Array.getElem?_eq_some_iff.1 hc).1
  have hkeep : Ar d (fun b => F b ∨ Q'.ownBlock = some b) w' a S l P Q ∨ True := .inr trivial
  have hrow : w'.ownsRow 0 (plT d) 10 P l.length (rowOf d l) := own_at h.row fun b e => ho b _ (own_ty h.row e) (Ne.symm n2) (h.lt b (h.frow b e))
  have hmem : ∀ x ∈ l, PaM w' (fun b => F b ∨ Q'.ownBlock = some b) x := fun x hx => ((h.mem x hx).keep fun b e => hg.block b (h.lt b ((h.mem x hx).own b e)) (fun eb => (h.mem x hx).not (hQty b eb.symm) (by decide) (by decide) (by decide) e)).mono fun b e => .inl e
  have hty : Ty w' a (hdT d) := ⟨_, ha.trans h.head⟩
  refine ⟨Q', w', hr, ?_, ha, (Only.grown F hg fun b e => h.fque b e).then (Only.set F w' (p := ⟨a, hdQ d, none⟩) h.fa _), ⟨?_, ?_, .inl h.fa, h.pls, ?_, fun b e => .inl (h.frow b e), ?_, fun b e => .inr e, ?_, h.sep⟩, fun b e => (hb b e).imp (fun e => h.fque b e) id⟩
  · obtain ⟨A, n, c, e, _⟩ := hq.form
    exact ⟨A, n, c, e⟩
  · rintro b (hF | hF)
    · simpa using Nat.lt_of_lt_of_le (h.lt b hF) hg.size
    · simpa using hlt' b hF
  · rw [heap_setCell_same w' a (hdQ d) _ _ Q' (ha.trans h.head)]
    cases d <;> rfl
  · exact own_set hrow (p := ⟨a, hdQ d, none⟩) hty m1 _
  · exact hq.at_ fun b e => heap_setCell_other w' ⟨a, hdQ d, none⟩ b _ (fun eb => m2 (hty.one (by subst eb; exact hq.ty e)))
  · exact fun x hx => (hmem x hx).keep fun b e => heap_setCell_other w' ⟨a, hdQ d, none⟩ b _ (fun eb => by subst eb; exact (hmem x hx).not hty m3 m4 m5 e)

set_option maxHeartbeats 4000000 in
theorem free_yes (h : Arn false F w a S) (hok : Ok S) (hp : S.pls[i]? = some p) (hu : p.used = true) (hr : mk i p.cnt = r) :
    Calls Try.prog 33 #[ptr a, .int .i64 r] w fun e w' => e = .returned (.bool true) ∧ Nx false F w a (S.free i p) w' := by
  have hi7 : i < 70000 := by have := (List.getElem?_eq_some_iff.1 hp).1; have := hok.len; omega
  have hpl : pl r = (i : Int) := pl_of_mk hi7 hr
  have HP := Lib.hid hpl
  obtain ⟨v, l, Q, g, c, hA, hx, hg, hF, HR, e2, e3, e4, e5, e6, e7, e8, e9, hz⟩ := open_yes h hok hp hu hr
  obtain ⟨g', c', hP', _, _, _, e0, e1, _⟩ := hA.cells0 hx
  injection hP' with hP1
  injection hP1 with hP1
  injection hP1 with hP1
  subst hP1
  simp only at e0 e1
  obtain ⟨W, hW, hAW, hOW⟩ := hA.wipe hx
  have HW := Lib.hid hW
  have hcnt := hok.cnt _ (List.mem_of_getElem? hp)
  have z0 := hz (i * 10)
  have z1 := hz (i * 10 + 1)
  have z2 := hz (i * 10 + 2)
  have z3 := hz (i * 10 + 3)
  have z4 := hz (i * 10 + 4)
  have z5 := hz (i * 10 + 5)
  have z6 := hz (i * 10 + 6)
  have z7 := hz (i * 10 + 7)
  have z8 := hz (i * 10 + 8)
  have z9 := hz (i * 10 + 9)
  clear hpl h hp hu hr hA hx hz hW
  go_enter Try.func33, Try.ntmps33
  go_wp2_with fail
  refine HR.out.mono ?_
  rintro e w' ⟨rfl, rfl⟩
  go_wp2_with fail
  rw [HW.out]
  clear HW e0 e1 e2 e3 e4 e5 e6 e7 e8 e9 z0 z1 z2 z3 z4 z5 z6 z7 z8 z9 HR
  obtain ⟨d0, d1, d2, d3⟩ := hAW.head0
  obtain ⟨A2, n2, c2, hQ, -, -⟩ := hAW.que.form
  have hQA := Lib.hid hQ
  rw [hQ] at d2
  have HC : Hid (∀ w', Below W.heap.size W w' → w'.cell? ⟨a, 2, none⟩ = some (.slice A2 n2 c2)) := fun w' h => below_read h d2
  refine region_T (fun k => k == 11) (fun w' => w'.cell? ⟨a, 2, none⟩ = some (.slice A2 n2 c2)) (by kernel_rfl) ?_
  obtain ⟨X0, hX0, hbX0⟩ : ∃ X0 : World, W.drew = X0 ∧ Below W.heap.size W X0 := ⟨_, rfl, (Below.refl _ W).drew⟩
  rw [hX0]
  clear hX0 hQ
  have hC := HC.out X0 hbX0
  refine takeT (i := 0) (v := ?_) rfl (by kernel_rfl) (by kernel_rfl) (by kernel_rfl) (by kernel_rfl) (fun _ _ _ h => h) hC (by rfl) ?_ ?_
  rotate_left
  · intro w hSw; (try dsimp only at hSw); go_simp; try (with_reducible rfl)
  try simp only [Act.put, List.setIfInBounds_toArray, List.set_cons_zero, List.set_cons_succ]
  refine takeT (i := 1) (v := ?_) rfl (by kernel_rfl) (by kernel_rfl) (by kernel_rfl) (by kernel_rfl) (fun _ _ _ h => h) hC (by rfl) ?_ ?_
  rotate_left
  · intro w hSw; (try dsimp only at hSw); go_simp; try (with_reducible rfl)
  try simp only [Act.put, List.setIfInBounds_toArray, List.set_cons_zero, List.set_cons_succ]
  refine takeT (i := 2) (v := ?_) rfl (by kernel_rfl) (by kernel_rfl) (by kernel_rfl) (by kernel_rfl) (fun _ _ _ h => h) hC (by rfl) ?_ ?_
  rotate_left
  · intro w hSw; (try dsimp only at hSw); go_simp; try (with_reducible rfl)
  try simp only [Act.put, List.setIfInBounds_toArray, List.set_cons_zero, List.set_cons_succ]
  refine takeT (i := 3) (v := ?_) rfl (by kernel_rfl) (by kernel_rfl) (by kernel_rfl) (by kernel_rfl) (fun _ _ _ h => h) hC (by rfl) ?_ ?_
  rotate_left
  · intro w hSw; (try dsimp only at hSw); go_simp; try (with_reducible rfl)
  try simp only [Act.put, List.setIfInBounds_toArray, List.set_cons_zero, List.set_cons_succ]
  refine takeT (i := 4) (v := ?_) rfl (by kernel_rfl) (by kernel_rfl) (by kernel_rfl) (by kernel_rfl) (fun _ _ _ h => h) hC (by rfl) ?_ ?_
  rotate_left
  · intro w hSw; (try dsimp only at hSw); go_simp; try (with_reducible rfl)
  try simp only [Act.put, List.setIfInBounds_toArray, List.set_cons_zero, List.set_cons_succ]
  refine takeT (i := 5) (v := ?_) rfl (by kernel_rfl) (by kernel_rfl) (by kernel_rfl) (by kernel_rfl) (fun _ _ _ h => h) hC (by rfl) ?_ ?_
  rotate_left
  · intro w hSw; (try dsimp only at hSw); go_simp; try (with_reducible rfl)
  try simp only [Act.put, List.setIfInBounds_toArray, List.set_cons_zero, List.set_cons_succ]
  clear hC
  refine oneT (i := 6) (by kernel_rfl) rfl (by rfl) (fun K hK => ?_)
  go_simp
  refine (place_walk r _).mono ?_
  rintro e w' ⟨rfl, rfl⟩
  rw [HP.out]
  refine hK.out _ _ (fun _ => HC.out X0 hbX0) ?_
  clear hK K
  try simp only [Act.put, List.setIfInBounds_toArray, List.set_cons_zero, List.set_cons_succ]
  refine oneT (i := 7) (by kernel_rfl) rfl (by rfl) (fun K hK => ?_)
  go_simp
  obtain ⟨X1, s, hX, hs, hst, cs⟩ := stepB X0 (.int .i64 (i : Int)) 3
  rw [hX, hs]
  clear hX hs
  have hbX1 := hbX0.trans (hst.mono hbX0.size)
  refine hK.out _ _ (fun _ => HC.out X1 hbX1) ?_
  clear hK K hst
  try simp only [Act.put, List.setIfInBounds_toArray, List.set_cons_zero, List.set_cons_succ]
  have hA1 := hAW.below hbX1
  have hrun := fun ty => hA1.pushQ ty s i cs (by have := hok.fr; simp only; omega)
  obtain ⟨Q', w2, hr2, ⟨A3, n3, c3, rfl⟩, hha, hO2, hA2, hb2⟩ := hrun 0
  rw [hQA.out] at hr2 hA1
  have hr3 : ∀ ty, (Builtin.append_ #[88, 88] ty #[.slice A2 n2 c2, .slice (some ⟨s, 0, none⟩) 1 1]).run Try.prog X1 = .ok (.slice A3 n3 c3) w2 := fun ty => hr2
  refine oneT (i := 8) (by kernel_rfl) rfl (by rfl) (fun K hK => ?_)
  refine Lib.wp_append_run (P := Try.prog) X1 (.tmp 22) (.tmp 25) 88 88 rfl (.slice A2 n2 c2) (.slice (some ⟨s, 0, none⟩) 1 1) rfl rfl _ w2 (hr3 _) ?_
  have hhead : w2.heap[a]? = _ := hha.trans hA1.head
  have y2 : w2.cell? ⟨a, 2, none⟩ = some (.slice A2 n2 c2) := by rw [cell_of_row w2 a _ _ _ (0, 0) hhead]; rfl
  have z2 : w2.frozen? ⟨a, 2, none⟩ = false := frozen_of_row w2 a 2 _ _ hhead
  refine hK.out _ _ (fun _ => y2) ?_
  clear hK K
  try simp only [Act.put, List.setIfInBounds_toArray, List.set_cons_zero, List.set_cons_succ]
  have hC : (fun w' : World => w'.cell? ⟨a, 2, none⟩ = some (.slice A2 n2 c2)) w2 := y2
  refine oneT (i := 9) (by kernel_rfl) rfl (by rfl) (fun K hK => ?_)
  go_simp
  refine hK.out _ _ (fun _ => hC) ?_
  clear hK K
  try simp only [Act.put, List.setIfInBounds_toArray, List.set_cons_zero, List.set_cons_succ]
  refine oneT (i := 10) (by kernel_rfl) rfl (by rfl) (fun K hK => ?_)
  go_simp
  refine hK.out _ _ (fun _ => hC) ?_
  clear hK K
  try simp only [Act.put, List.setIfInBounds_toArray, List.set_cons_zero, List.set_cons_succ]
  refine oneT (i := 11) (by kernel_rfl) rfl (by rfl) (fun K hK => ?_)
  go_simp
  refine hK.out _ _ (fun h => by cases h) ?_
  clear hK K
  refine doneT (by kernel_rfl) ?_
  have HZ : Hid (Nx false F w a (S.free i p) (w2.setCell ⟨a, 2, none⟩ (.slice A3 n3 c3))) := by
    refine ⟨_, ⟨_, _, _, hA2⟩, (hOW.then (Only.of_below F hbX1)).then hO2, ?_⟩
    rintro b (e | e)
    · exact .inl e
    · exact (hb2 b e).imp id (fun e => Nat.le_trans (Nat.le_trans hOW.size hbX1.size) e)
  clear hA2 hO2 hA1 hAW hhead hha
  go_wp2
  go_ret
  exact ⟨rfl, HZ.out⟩

theorem free_no (h : Arn false F w a S) (hok : Ok S) (hno : ∀ i, ¬ Hit S r i) :
    Calls Try.prog 33 #[ptr a, .int .i64 r] w fun e w' => e = .returned (.bool false) ∧ Arn false F w' a S.fault ∧ Only F w w' := by
  have HR := Lib.hid (open_no h hok hno)
  clear h hno
  go_enter Try.func33, Try.ntmps33
  go_wp2_with fail
  refine HR.out.mono ?_
  rintro e w' ⟨rfl, h2, h3⟩
  go_wp2
  go_ret
  exact ⟨rfl, h2, h3⟩
theorem free_nil (r : Int) (w : World) :
    Calls Try.prog 33 #[nilp, .int .i64 r] w fun e w' => e = .returned (.bool false) ∧ w = w' := by
  go_enter Try.func33, Try.ntmps33
  go_wp2_with fail
  refine (right_nil r _).mono ?_
  rintro e w' ⟨rfl, rfl⟩
  go_wp2
  go_ret
  exact ⟨rfl, rfl⟩
end
end Go.Proofs.Ytmnbdhngadjmiaa
