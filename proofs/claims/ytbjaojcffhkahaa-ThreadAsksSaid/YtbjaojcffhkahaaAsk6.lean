/-
  Ask within work: of a touch that was done, of this Step's touch, of a later one's.
-/
import Derived.Test.YtbjaojcffhkahaaLong6
namespace Go.Proofs.Ytbjaojcffhkahaa
open Go.ChangeShapes Go.WideShapes Go.ChangeAt Go.RowKit
set_option linter.unusedVariables false
set_option linter.unusedSimpArgs false
set_option maxRecDepth 20000

def b2i (x : Bool) : Int := if x then 1 else 0
theorem b2i_ne (x : Bool) : (b2i x != 0) = x := by cases x <;> rfl
section
variable {F G F' : Nat → Prop} {w w' wr : World} {a st ph k Bk By : Nat} {zs os : List Int} {wk T O : Value} {v : Int} {x : Bool}
theorem ask1_walk {f : Nat} {cap : Array Value} {S : Bool → World → Prop} {Bx : Nat} (hen : ∀ W : World, (callFunc f cap).run Try.prog W = .ok (.enter f cap) W) (hc : w.cell? ⟨Bx, 0, none⟩ = some (.func (.func f) #[] cap))
    (ht : Calls Try.prog f cap w fun e w2 => ∃ b, e = .returned (.bool b) ∧ S b w2) :
    Calls Try.prog 40 #[ptr Bx] w fun e w2 => ∃ b, e = .returned (.int .i64 (b2i b)) ∧ S b w2 := by
  go_enter Try.func40, Try.ntmps40
  go_wp2_with fail
  refine ht.mono ?_
  clear ht
  rintro e w2 ⟨b, rfl, hS⟩
  have HS := Lib.hid hS
  clear hS hc hen
  cases b with
  | true =>
    go_wp2
    go_ret
    exact ⟨true, rfl, HS.out⟩
  | false =>
    go_wp2
    go_ret
    exact ⟨false, rfl, HS.out⟩

theorem ask_replay (f : Fn) (first cap : Array Value) (h : Th F w a wk zs st O os 1 k T) (hk : k < zs.length) (hl : zs.length ≤ 1000) : Calls Try.prog 22 #[ptr a, .func f first cap] w fun e w' => e = .returned (.bool (zs.getD k 0 != 0)) ∧ Th F w' a wk zs st O os 1 (k + 1) T ∧ Only (· = a) w w' := by
  have e2 := eq_ask
  have e3 := mk_fn
  have HH := Lib.hid (h.below (below_new w (.cells #[.func f first cap] 24)))
  have hdo := do_replay (.func 40) #[] #[ptr w.heap.size] HH.out hk hl
  clear h
  go_enter Try.func22, Try.ntmps22
  go_wp2_with fail
  refine hdo.mono ?_
  rintro e w1 ⟨rfl, h1, o1⟩
  have HE : Hid (Th F w1 a wk zs st O os 1 (k + 1) T ∧ Only (· = a) w w1) := ⟨h1, (Only.of_below _ (below_new w _)).then o1⟩
  clear hdo h1 o1
  obtain ⟨z, hz⟩ : ∃ z, zs.getD k 0 = z := ⟨_, rfl⟩
  rw [hz]
  have HZ := Lib.hid hz
  clear hz
  go_wp2
  go_ret
  exact ⟨by rw [HZ.out]; first | rfl | simp, HE.out.1, HE.out.2⟩

theorem ask_wait (f : Fn) (first cap : Array Value) (h : Th F w a wk zs st O os 3 k T) (hk : k = zs.length) (hl : zs.length ≤ 1000) : Calls Try.prog 22 #[ptr a, .func f first cap] w fun e w' => e = .panicked waitE ∧ Th F w' a wk zs st O os 4 k T ∧ Only (· = a) w w' := by
  have e2 := eq_ask
  have e3 := mk_fn
  have HH := Lib.hid (h.below (below_new w (.cells #[.func f first cap] 24)))
  have hdo := do_wait (.func 40) #[] #[ptr w.heap.size] HH.out hk hl
  clear h
  go_enter Try.func22, Try.ntmps22
  go_wp2_with fail
  refine hdo.mono ?_
  rintro e w1 ⟨rfl, h1, o1⟩
  exact ⟨rfl, rfl, h1, (Only.of_below _ (below_new w _)).then o1⟩

theorem ask_fresh {S : Bool → World → Prop} {f : Nat} {cap : Array Value} (hen : ∀ W : World, (callFunc f cap).run Try.prog W = .ok (.enter f cap) W) (h : Th F w a wk zs st (.slice none 0 0) os 1 k T) (hk : k = zs.length) (hl : zs.length ≤ 900) (hst : st ≤ 1000)
    (ht : ∀ w1, Th F w1 a wk zs st (.slice none 0 0) os 2 k T → Only (· = a) w w1 → Calls Try.prog f cap w1 fun e w2 => ∃ b, e = .returned (.bool b) ∧ Th F w2 a wk zs st (.slice none 0 0) os 2 k T ∧ S b w2) :
    Calls Try.prog 22 #[ptr a, .func (.func f) #[] cap] w fun e w' => ∃ b w2 F' T', e = .returned (.bool b) ∧ S b w2 ∧ Th F' w' a wk (zs ++ [b2i b]) (st + 1) (.slice none 0 0) os 3 (k + 1) T' ∧ Only F w2 w' ∧ ∀ b, F' b → F b ∨ w2.heap.size ≤ b := by
  have e2 := eq_ask
  have e3 := mk_fn
  have hlt : a < w.heap.size := h.lt a h.fa
  have bb := below_new w (.cells #[.func (.func f) #[] cap] 24)
  have cc : (w.alloc (.cells #[.func (.func f) #[] cap] 24)).cell? ⟨w.heap.size, 0, none⟩ = some (.func (.func f) #[] cap) := c_new rfl rfl
  have hdo := do_fresh (f := 40) (cap := #[ptr w.heap.size]) (S := fun z w2 => ∃ b, z = b2i b ∧ S b w2) (fun W => rfl) (h.below bb) hk hl hst (by
    intro w1 hT hO
    have hc1 := only_read hO (show ¬ w.heap.size = a by omega) cc
    refine (ask1_walk hen hc1 (ht w1 hT ((Only.of_below _ bb).then hO))).mono ?_
    rintro e w2 ⟨b, rfl, hT2, hS⟩
    exact ⟨b2i b, rfl, hT2, b, rfl, hS⟩)
  clear h ht bb cc hen
  go_enter Try.func22, Try.ntmps22
  go_wp2_with fail
  refine hdo.mono ?_
  clear hdo
  rintro e w1 ⟨z, w2, F', T', rfl, ⟨b, rfl, hS⟩, h1, o1, s1⟩
  have HE : Hid (∃ w2 F' T', S b w2 ∧ Th F' w1 a wk (zs ++ [b2i b]) (st + 1) (.slice none 0 0) os 3 (k + 1) T' ∧ Only F w2 w1 ∧ ∀ b, F' b → F b ∨ w2.heap.size ≤ b) := ⟨w2, F', T', hS, h1, o1, s1⟩
  clear hS h1 o1 s1
  have hbn := b2i_ne b
  have HBN := Lib.hid hbn
  clear hbn
  obtain ⟨zz, hzz⟩ : ∃ zz, b2i b = zz := ⟨_, rfl⟩
  rw [hzz] at HBN ⊢
  clear hzz
  go_wp2
  go_ret
  obtain ⟨w2, F', T', r1, r2, r3, r4⟩ := HE.out
  exact ⟨b, w2, F', T', by first | (rw [← HBN.out]; rfl) | (simp [← HBN.out]), r1, r2, r3, r4⟩

/-- A variable of an int at block B. -/
def Vi (w : World) (B : Nat) (v : Int) : Prop := w.heap[B]? = some (.cells #[.int .i64 v] 3 (0, 0))
theorem Vi.cell (h : Vi w Bk v) : w.cell? ⟨Bk, 0, none⟩ = some (.int .i64 v) := by rw [cell_of_row w Bk _ _ _ (0, 0) h]; rfl
theorem Vi.free (h : Vi w Bk v) : w.frozen? ⟨Bk, 0, none⟩ = false := frozen_of_row w Bk 0 _ _ h
theorem Vi.only (h : Vi w Bk v) (ho : Only G w w') (hn : ¬ G Bk) : Vi w' Bk v := (ho.block Bk (Array.getElem?_eq_some_iff.1 h).1 hn).trans h
theorem Vi.set (h : Vi w Bk v) (u : Int) : Vi (w.setCell ⟨Bk, 0, none⟩ (.int .i64 u)) Bk u := heap_set h _
theorem Vi.lt (h : Vi w Bk v) : Bk < w.heap.size := (Array.getElem?_eq_some_iff.1 h).1

theorem touchK (h : Vi w Bk v) (hv : -1000 ≤ v ∧ v ≤ 1000) (hy : w.cell? ⟨By, 0, none⟩ = some (.bool x)) (hne : ¬ By = Bk) : Calls Try.prog 27 #[ptr Bk, ptr By] w fun e w' => e = .returned (.bool x) ∧ w' = w.setCell ⟨Bk, 0, none⟩ (.int .i64 (v + 1)) := by
  have c0 := h.cell
  have f0 := h.free
  have hy2 : (w.setCell ⟨Bk, 0, none⟩ (.int .i64 (v + 1))).cell? ⟨By, 0, none⟩ = some (.bool x) := only_read (G := (· = Bk)) (only_set w Bk 0 _) hne hy
  have hw : IntKind.i64.wrap (v + 1) = v + 1 := IntWalk.i64_in _ (by omega)
  clear h hy
  go_enter Try.func27, Try.ntmps27
  go_wp2
  go_ret
  exact ⟨rfl, rfl⟩

/-- Where ThreadAsks' work is, behind k touches; bz is what the next one tells. -/
structure AK (w : World) (F F' : Nat → Prop) (a : Nat) (wk : Value) (zs : List Int) (st Bk : Nat) (bz : Bool) (k : Nat) (wr : World) : Prop where
  only : Only (fun b => F b ∨ b = Bk) w wr
  new : ∀ b, F' b → F b ∨ w.heap.size ≤ b
  th : ∃ T', (k ≤ zs.length ∧ Th F' wr a wk zs st (.slice none 0 0) [] 1 k T' ∧ Vi wr Bk (zs.length : Int)) ∨ (k = zs.length + 1 ∧ Th F' wr a wk (zs ++ [b2i bz]) (st + 1) (.slice none 0 0) [] 3 k T' ∧ Vi wr Bk ((zs.length : Int) + 1))
  lt : ∀ b, F' b → b < wr.heap.size
variable {bz : Bool}
theorem AK.keep (h : AK w F F' a wk zs st Bk bz k wr) (ho : Only G wr w') (hG : ∀ b, G b → ¬ F' b ∧ ¬ b = Bk ∧ w.heap.size ≤ b) : AK w F F' a wk zs st Bk bz k w' := by
  obtain ⟨T', h1⟩ := h.th
  refine ⟨h.only.trans ho (fun b e => .inr (hG b e).2.2), h.new, ⟨T', ?_⟩, fun b e => Nat.lt_of_lt_of_le (h.lt b e) ho.size⟩
  rcases h1 with ⟨r1, r2, r3⟩ | ⟨r1, r2, r3⟩
  · exact .inl ⟨r1, r2.only ho (fun b e g => (hG b g).1 e), r3.only ho (fun g => (hG _ g).2.1 rfl)⟩
  · exact .inr ⟨r1, r2.only ho (fun b e g => (hG b g).1 e), r3.only ho (fun g => (hG _ g).2.1 rfl)⟩

theorem ask_k (h : AK w F F' a wk zs st Bk bz k wr) (hz : zs.length ≤ 100) (hst : st ≤ 100) (hfB : ¬ F Bk) (hlB : Bk < w.heap.size) (hy : wr.cell? ⟨By, 0, none⟩ = some (.bool x)) (hx : k = zs.length → x = bz) (nF : ¬ F' By) (nB : ¬ By = Bk) :
    Calls Try.prog 22 #[ptr a, .func (.func 27) #[] #[ptr Bk, ptr By]] wr fun e w' =>
      (k ≤ zs.length ∧ e = .returned (.bool ((zs ++ [b2i bz]).getD k 0 != 0)) ∧ ∃ F2, AK w F F2 a wk zs st Bk bz (k + 1) w' ∧ Only (fun b => F' b ∨ b = Bk) wr w' ∧ ∀ b, F2 b → F' b ∨ wr.heap.size ≤ b) ∨
      (k = zs.length + 1 ∧ e = .panicked waitE ∧ Only (fun b => F b ∨ b = Bk) w w' ∧ Vi w' Bk ((zs.length : Int) + 1) ∧ ∃ T', Th F' w' a wk (zs ++ [b2i bz]) (st + 1) (.slice none 0 0) [] 4 k T') := by
  obtain ⟨T', ⟨hk, hT, hV⟩ | ⟨hk, hT, hV⟩⟩ := h.th
  · have hfB' : ¬ F' Bk := fun e => (h.new _ e).elim hfB (by omega)
    have hna : ¬ Bk = a := fun e => hfB' (by rw [e]; exact hT.fa)
    have oA : ∀ {w1 w2 : World}, Only (· = a) w1 w2 → Only (fun b => F' b ∨ b = Bk) w1 w2 := fun o => o.mono fun b e => .inl (by rw [e]; exact hT.fa)
    have hF'F : ∀ b, F' b ∨ b = Bk → (F b ∨ b = Bk) ∨ w.heap.size ≤ b := fun b e => by
      rcases e with e | e
      · exact (h.new b e).imp .inl id
      · exact .inl (.inr e)
    by_cases hlt : k < zs.length
    · refine (ask_replay _ _ _ hT hlt (by omega)).mono ?_
      rintro e w' ⟨rfl, h1, o1⟩
      refine .inl ⟨hk, by simp [List.getD, List.getElem?_append, hlt], F', ⟨h.only.trans (oA o1) hF'F, h.new, ⟨T', .inl ⟨by omega, h1, hV.only o1 hna⟩⟩, h1.lt⟩, oA o1, fun b e => .inl e⟩
    · have hke : k = zs.length := by omega
      obtain rfl := hx hke
      refine (ask_fresh (S := fun b w2 => b = x ∧ Vi w2 Bk ((zs.length : Int) + 1) ∧ Only (fun b => F' b ∨ b = Bk) wr w2) (fun W => rfl) hT hke (by omega) (by omega) ?_).mono ?_
      · intro w1 hT1 hO
        have hV1 := hV.only hO hna
        refine (touchK hV1 (by omega) (only_read hO (fun e => nF (by rw [show By = a from e]; exact hT.fa)) hy) nB).mono ?_
        rintro e w2 ⟨rfl, rfl⟩
        have o1 := only_set w1 Bk 0 (.int .i64 ((zs.length : Int) + 1))
        exact ⟨x, rfl, hT1.only o1 (fun b e e2 => hfB' (by rw [← e2]; exact e)), rfl, hV1.set _, (oA hO).then (o1.mono fun b e => .inr e)⟩
      · rintro e w' ⟨b, w2, F2, T2, rfl, ⟨rfl, hV2, o2⟩, h3, o3, s3⟩
        have hall : Only (fun b => F' b ∨ b = Bk) wr w' := o2.then (o3.mono fun b e => .inl e)
        refine .inl ⟨hk, by rw [show (zs ++ [b2i b]).getD k 0 = b2i b by subst hke; simp [List.getD]]; rw [b2i_ne], F2, ⟨h.only.trans hall hF'F, fun b e => ?_, ⟨T2, .inr ⟨by omega, h3, hV2.only o3 hfB'⟩⟩, h3.lt⟩, hall, fun b e => (s3 b e).imp id (Nat.le_trans o2.size)⟩
        rcases s3 b e with e | e
        · exact h.new b e
        · right; have h1 := h.only.size; have h2 := o2.size; omega
  · have hna : ¬ Bk = a := fun e => by
      have h1 := h.new a hT.fa
      rw [← e] at h1
      exact h1.elim hfB (by omega)
    refine (ask_wait _ _ _ hT (by simp [hk]) (by simp; omega)).mono ?_
    rintro e w' ⟨rfl, h1, o1⟩
    exact .inr ⟨hk, rfl, h.only.trans o1 (fun b e => (h.new b (by rw [e]; exact hT.fa)).imp .inl id), hV.only o1 hna, T', h1⟩
end
end Go.Proofs.Ytbjaojcffhkahaa
