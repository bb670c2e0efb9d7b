/-
  Do of a method value: as of a closure, with what is bound ahead of the arguments.
-/
import Derived.Test.YtmnbdhngadjmiaaGo6
namespace Go.Proofs.Ytmnbdhngadjmiaa
open Go.ChangeShapes Go.WideShapes Go.ChangeAt Go.RowKit
set_option linter.unusedVariables false
set_option linter.unusedSimpArgs false
set_option maxRecDepth 20000
section
variable {F G : Nat → Prop} {w w' : World} {a st ph k : Nat} {zs os : List Int} {wk T O : Value}
/-- next, where this Step's touch isn't done yet: it is done, and what it told is kept. -/
theorem next_freshM {S : Int → World → Prop} {f : Nat} {cap : Array Value} (hen : ∀ W : World, (callFunc f cap).run Try.prog W = .ok (.enter f cap) W) (h : Th F w a wk zs st (.slice none 0 0) os 1 k T) (hl : zs.length ≤ 1000) (hst : st ≤ 1000)
    (ht : Calls Try.prog f cap (w.setCell ⟨a, 4, none⟩ (.int .u8 2)) fun e w2 => ∃ z, e = .returned (.int .i64 z) ∧ Th F w2 a wk zs st (.slice none 0 0) os 2 k T ∧ S z w2) :
    Calls Try.prog 77 #[ptr a, .func (.func f) cap #[]] w fun e w' => e = .returned (.tuple #[]) ∧ ∃ z w2 F' T', S z w2 ∧ Th F' w' a wk (zs ++ [z]) (st + 1) (.slice none 0 0) os 3 k T' ∧ Only F w2 w' ∧ ∀ b, F' b → F b ∨ w2.heap.size ≤ b := by
  obtain ⟨c0, c1, c2, c3, c4, c5⟩ := h.cells
  have f4 := h.free 4
  clear h c1 c0 c2 c3 c5
  go_enter Try.func77, Try.ntmps77
  go_wp2_with fail
  refine ht.mono ?_
  rintro e w2 ⟨z, rfl, h2, hS⟩
  clear ht hen c4 f4
  obtain ⟨W3, hW3, h3, o3⟩ : ∃ W3 : World, w2.setCell ⟨a, 4, none⟩ (.int .u8 3) = W3 ∧ Th F W3 a wk zs st (.slice none 0 0) os 3 k T ∧ Only F w2 W3 := ⟨_, rfl, h2.phase 3, (only_set w2 a 4 _).mono fun b e => by subst e; exact h2.fa⟩
  obtain ⟨-, -, -, -, c4, -⟩ := h2.cells
  have f4 := h2.free 4
  obtain ⟨-, c1, c2, -, -, -⟩ := h3.cells
  obtain ⟨W4, s, hW4, hs, b4, e4⟩ : ∃ (W4 : World) (s : Nat), W3.alloc (.cells #[.int .i64 z] 2) = W4 ∧ W3.heap.size = s ∧ Below W3.heap.size W3 W4 ∧ W4.cell? ⟨s, 0, none⟩ = some (.int .i64 z) := ⟨_, _, rfl, rfl, below_new _ _, c_new rfl rfl⟩
  have h4 := h3.below b4
  obtain ⟨A', m', n', W5, hrun, r5, g5, l5⟩ := run_pushS h4.told (sl_one e4) (by simp; omega) (by simp)
  have hT : ∃ A n c, T = .slice A n c := h2.told.shape
  obtain ⟨A, n, c, rfl⟩ := hT
  obtain ⟨h6, o6, c6, f6⟩ := h4.pushed (n := 0) (c := 0) (A := none) r5 g5 l5
  obtain ⟨W6, hW6⟩ : ∃ W6 : World, W5.setCell ⟨a, 1, none⟩ (.slice A' m' n') = W6 := ⟨_, rfl⟩
  rw [hW6] at h6 o6
  have h7 := h6.stp (st + 1)
  obtain ⟨-, -, d2, -, -, -⟩ := h6.cells
  have f2 := h6.free 2
  have HE : Hid (∃ z w2_1 F' T'_1, S z w2_1 ∧ Th F' (W6.setCell ⟨a, 2, none⟩ (.int .i64 ((st + 1 : Nat) : Int))) a wk (zs ++ [z]) (st + 1) (.slice none 0 0) os 3 k T'_1 ∧ Only F w2_1 (W6.setCell ⟨a, 2, none⟩ (.int .i64 ((st + 1 : Nat) : Int))) ∧ ∀ b, F' b → F b ∨ w2_1.heap.size ≤ b) :=
    ⟨z, w2, _, _, hS, h7, ((o3.then (Only.of_below F b4)).then o6).then ((only_set W6 a 2 _).mono fun b e => by subst e; exact h2.fa), fun b e => by
      rcases e with e | e
      · exact .inl e
      rcases l5 b e with e | e
      · exact .inl (h4.ft b e)
      · right
        have h1 := o3.size
        have h2 := b4.size
        omega⟩
  clear h2 h3 h4 h6 h7 o3 o6 b4 r5 g5 l5 hS
  go_wp2_with (at_builtin; refine Lib.wpList_append_run _ rfl _ _ _ _ rfl _ _ rfl rfl _ _ hrun ?_)
  go_end0
  exact ⟨rfl, HE.out⟩

set_option maxHeartbeats 1000000 in
/-- Do, of this Step's touch: it is done. -/
theorem do_freshM {S : Int → World → Prop} {f : Nat} {cap : Array Value} (hen : ∀ W : World, (callFunc f cap).run Try.prog W = .ok (.enter f cap) W) (h : Th F w a wk zs st (.slice none 0 0) os 1 k T) (hk : k = zs.length) (hl : zs.length ≤ 900) (hst : st ≤ 1000)
    (ht : ∀ w1, Th F w1 a wk zs st (.slice none 0 0) os 2 k T → Only (· = a) w w1 → Calls Try.prog f cap w1 fun e w2 => ∃ z, e = .returned (.int .i64 z) ∧ Th F w2 a wk zs st (.slice none 0 0) os 2 k T ∧ S z w2) :
    Calls Try.prog 58 #[ptr a, .func (.func f) cap #[]] w fun e w' => ∃ z w2 F' T', e = .returned (.int .i64 z) ∧ S z w2 ∧ Th F' w' a wk (zs ++ [z]) (st + 1) (.slice none 0 0) os 3 (k + 1) T' ∧ Only F w2 w' ∧ ∀ b, F' b → F b ∨ w2.heap.size ≤ b := by
  have e2 := eq_touch
  have ha := atWork_walk h (by omega)
  obtain ⟨A, n, c, rfl⟩ := h.told.shape
  have hs := h.told.sl
  have hn := hs.len
  have HH := Lib.hid h
  obtain ⟨-, c1, -, -, -, c5⟩ := h.cells
  obtain rfl : k = n := by omega
  clear h hs
  go_enter Try.func58, Try.ntmps58
  go_wp2_with fail
  refine ha.mono ?_
  rintro e w1 ⟨rfl, rfl⟩
  clear ha
  go_wp2_with fail
  go_quiet (fail)
  go_wp2_with fail
  refine (next_freshM hen (HH.out.drewN nq) (by omega) hst (ht _ ((HH.out.drewN nq).phase 2) ((only_drewN _ _ _).then (only_set _ _ _ _)))).mono ?_
  rintro e W ⟨rfl, z, w2, F', T', hS, hT, hO, hF⟩
  clear c1 c5 ht hen HH
  have hfa : F' a := hT.fa
  obtain ⟨A', n', c', rfl⟩ := hT.told.shape
  obtain ⟨-, c1, -, -, -, c5⟩ := hT.cells
  have f5 := hT.free 5
  obtain ⟨W2, hW2, h2, hO2⟩ : ∃ W2 : World, W.setCell ⟨a, 5, none⟩ (.int .i64 ((k : Int) + 1)) = W2 ∧ Th F' W2 a wk (zs ++ [z]) (st + 1) (.slice none 0 0) os 3 (k + 1) (.slice A' n' c') ∧ Only (· = a) W W2 := ⟨_, rfl, hT.at_ (k + 1), only_set _ _ _ _⟩
  have hn' : n' = k + 1 := by have := h2.told.sl.len; rw [this, List.length_append, hk]; rfl
  obtain ⟨b, off, rfl, hb, hc⟩ := h2.told.sl.at0 (k := k) (by omega)
  have hz : (zs ++ [z]).getD k 0 = z := by subst hk; simp [List.getD]
  rw [hz] at hc
  clear hz
  have H2 := Lib.hid h2
  obtain ⟨-, q1, -, -, -, q5⟩ := h2.cells
  have q5' : W2.cell? ⟨a, 5, none⟩ = some (.int .i64 ((k : Int) + 1)) := q5
  have h3 : IntKind.i64.wrap ((k : Int) + 1 - 1) = (k : Int) := by rw [Int.add_sub_cancel]; exact IntWalk.i64_in _ (by omega)
  have i1 : (0 : Int) ≤ (k : Int) := by omega
  have i2 : (k : Int) < (n' : Int) := by omega
  have hka : k ≤ 900 := by omega
  have HE : Hid (∀ m, ∃ w2_1 F'_1 T', S z w2_1 ∧ Th F'_1 (W2.drewN m) a wk (zs ++ [z]) (st + 1) (.slice none 0 0) os 3 (k + 1) T' ∧ Only F w2_1 (W2.drewN m) ∧ ∀ b, F'_1 b → F b ∨ w2_1.heap.size ≤ b) := fun m => ⟨w2, F', _, hS, h2.drewN m, (hO.trans hO2 (fun b e => by subst e; exact (hF _ hfa))).then (only_drewN _ _ _), hF⟩
  clear hT h2 q5 hO hO2 hS hF hfa hn hk
  go_wp2_with fail
  go_quiet (fail)
  go_wp2
  go_ret
  obtain ⟨w2', F'', T'', r1, r2, r3, r4⟩ := HE.out nq
  exact ⟨z, w2', F'', T'', rfl, r1, r2, r3, r4⟩

end

def b2i (x : Bool) : Int := if x then 1 else 0
theorem b2i_ne (x : Bool) : (b2i x != 0) = x := by cases x <;> rfl
section
variable {F G F' : Nat → Prop} {w w' wr : World} {a st ph k Bk By : Nat} {zs os : List Int} {wk T O : Value} {v : Int} {x : Bool}
theorem ask1_walk {f : Nat} {cap : Array Value} {S : Bool → World → Prop} {Bx : Nat} (hen : ∀ W : World, (callFunc f cap).run Try.prog W = .ok (.enter f cap) W) (hc : w.cell? ⟨Bx, 0, none⟩ = some (.func (.func f) #[] cap))
    (ht : Calls Try.prog f cap w fun e w2 => ∃ b, e = .returned (.bool b) ∧ S b w2) :
    Calls Try.prog 80 #[ptr Bx] w fun e w2 => ∃ b, e = .returned (.int .i64 (b2i b)) ∧ S b w2 := by
  go_enter Try.func80, Try.ntmps80
  go_wp2_with fail
  refine ht.mono ?_
  clear ht
  rintro e w2 ⟨b, rfl, hS⟩
  have HS := Lib.hid hS
  clear hS hc hen
  cases b with
  | true =>
    go_wp2
    go_ret
    exact ⟨true, rfl, HS.out⟩
  | false =>
    go_wp2
    go_ret
    exact ⟨false, rfl, HS.out⟩

theorem ask_replay (f : Fn) (first cap : Array Value) (h : Th F w a wk zs st O os 1 k T) (hk : k < zs.length) (hl : zs.length ≤ 1000) : Calls Try.prog 61 #[ptr a, .func f first cap] w fun e w' => e = .returned (.bool (zs.getD k 0 != 0)) ∧ Th F w' a wk zs st O os 1 (k + 1) T ∧ Only (· = a) w w' := by
  have e2 := eq_ask
  have e3 := mk_fn
  have HH := Lib.hid (h.below (below_new w (.cells #[.func f first cap] 22)))
  have hdo := do_replay (.func 80) #[] #[ptr w.heap.size] HH.out hk hl
  clear h
  go_enter Try.func61, Try.ntmps61
  go_wp2_with fail
  refine hdo.mono ?_
  rintro e w1 ⟨rfl, h1, o1⟩
  have HE : Hid (Th F w1 a wk zs st O os 1 (k + 1) T ∧ Only (· = a) w w1) := ⟨h1, (Only.of_below _ (below_new w _)).then o1⟩
  clear hdo h1 o1
  obtain ⟨z, hz⟩ : ∃ z, zs.getD k 0 = z := ⟨_, rfl⟩
  rw [hz]
  have HZ := Lib.hid hz
  clear hz
  go_wp2
  go_ret
  exact ⟨by rw [HZ.out]; first | rfl | simp, HE.out.1, HE.out.2⟩

theorem ask_wait (f : Fn) (first cap : Array Value) (h : Th F w a wk zs st O os 3 k T) (hk : k = zs.length) (hl : zs.length ≤ 1000) : Calls Try.prog 61 #[ptr a, .func f first cap] w fun e w' => e = .panicked waitE ∧ Th F w' a wk zs st O os 4 k T ∧ Only (· = a) w w' := by
  have e2 := eq_ask
  have e3 := mk_fn
  have HH := Lib.hid (h.below (below_new w (.cells #[.func f first cap] 22)))
  have hdo := do_wait (.func 80) #[] #[ptr w.heap.size] HH.out hk hl
  clear h
  go_enter Try.func61, Try.ntmps61
  go_wp2_with fail
  refine hdo.mono ?_
  rintro e w1 ⟨rfl, h1, o1⟩
  exact ⟨rfl, rfl, h1, (Only.of_below _ (below_new w _)).then o1⟩

theorem ask_fresh {S : Bool → World → Prop} {f : Nat} {cap : Array Value} (hen : ∀ W : World, (callFunc f cap).run Try.prog W = .ok (.enter f cap) W) (h : Th F w a wk zs st (.slice none 0 0) os 1 k T) (hk : k = zs.length) (hl : zs.length ≤ 900) (hst : st ≤ 1000)
    (ht : ∀ w1, Th F w1 a wk zs st (.slice none 0 0) os 2 k T → Only (· = a) w w1 → Calls Try.prog f cap w1 fun e w2 => ∃ b, e = .returned (.bool b) ∧ Th F w2 a wk zs st (.slice none 0 0) os 2 k T ∧ S b w2) :
    Calls Try.prog 61 #[ptr a, .func (.func f) #[] cap] w fun e w' => ∃ b w2 F' T', e = .returned (.bool b) ∧ S b w2 ∧ Th F' w' a wk (zs ++ [b2i b]) (st + 1) (.slice none 0 0) os 3 (k + 1) T' ∧ Only F w2 w' ∧ ∀ b, F' b → F b ∨ w2.heap.size ≤ b := by
  have e2 := eq_ask
  have e3 := mk_fn
  have hlt : a < w.heap.size := h.lt a h.fa
  have bb := below_new w (.cells #[.func (.func f) #[] cap] 22)
  have cc : (w.alloc (.cells #[.func (.func f) #[] cap] 22)).cell? ⟨w.heap.size, 0, none⟩ = some (.func (.func f) #[] cap) := c_new rfl rfl
  have hdo := do_fresh (f := 80) (cap := #[ptr w.heap.size]) (S := fun z w2 => ∃ b, z = b2i b ∧ S b w2) (fun W => rfl) (h.below bb) hk hl hst (by
    intro w1 hT hO
    have hc1 := only_read hO (show ¬ w.heap.size = a by omega) cc
    refine (ask1_walk hen hc1 (ht w1 hT ((Only.of_below _ bb).then hO))).mono ?_
    rintro e w2 ⟨b, rfl, hT2, hS⟩
    exact ⟨b2i b, rfl, hT2, b, rfl, hS⟩)
  clear h ht bb cc hen
  go_enter Try.func61, Try.ntmps61
  go_wp2_with fail
  refine hdo.mono ?_
  clear hdo
  rintro e w1 ⟨z, w2, F', T', rfl, ⟨b, rfl, hS⟩, h1, o1, s1⟩
  have HE : Hid (∃ w2 F' T', S b w2 ∧ Th F' w1 a wk (zs ++ [b2i b]) (st + 1) (.slice none 0 0) os 3 (k + 1) T' ∧ Only F w2 w1 ∧ ∀ b, F' b → F b ∨ w2.heap.size ≤ b) := ⟨w2, F', T', hS, h1, o1, s1⟩
  clear hS h1 o1 s1
  have hbn := b2i_ne b
  have HBN := Lib.hid hbn
  clear hbn
  obtain ⟨zz, hzz⟩ : ∃ zz, b2i b = zz := ⟨_, rfl⟩
  rw [hzz] at HBN ⊢
  clear hzz
  go_wp2
  go_ret
  obtain ⟨w2, F', T', r1, r2, r3, r4⟩ := HE.out
  exact ⟨b, w2, F', T', by first | (rw [← HBN.out]; rfl) | (simp [← HBN.out]), r1, r2, r3, r4⟩

end
end Go.Proofs.Ytmnbdhngadjmiaa