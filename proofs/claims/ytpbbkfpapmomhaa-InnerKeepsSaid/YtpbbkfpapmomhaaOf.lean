/-
  What the law's own Of returns: a right one of some keys that rise, its ways being from a number on.
-/
import Derived.Test.YtpbbkfpapmomhaaLaw2
namespace Go.Proofs.Ytpbbkfpapmomhaa
open Go.ChangeShapes Go.WideShapes Go.ChangeAt Go.RowKit
set_option linter.unusedVariables false
set_option linter.unusedSimpArgs false

/-- Ways from a number on, one more than k. -/
def waysTo (f : Int) (k : Nat) : List Int := (List.range (k + 1)).map fun (i : Nat) => f + (i : Int)
theorem waysTo_length (f : Int) (k : Nat) : (waysTo f k).length = k + 1 := by simp [waysTo]
theorem waysTo_succ (f : Int) (k : Nat) : waysTo f (k + 1) = waysTo f k ++ [f + ((k + 1 : Nat) : Int)] := by
  unfold waysTo; rw [List.range_succ, List.map_append]; rfl

theorem Row.lit1 {el : TypeId} {base : Nat} (w : World) (z : Int) (hb : base ≤ w.heap.size) : Row el base (w.alloc (.cells #[.int .i64 z] el)) (.slice (some ⟨w.heap.size, 0, none⟩) 1 1) [z] :=
  World.ownsRow_lit w #[.int .i64 z] 1 hb (by unfold maxLen; omega) rfl

theorem boxedOf (w : World) (z : Int) : ∃ (W : World) (R O g : Nat) (X : World), ((w.alloc (.cells #[.slice none 0 0, .slice none 0 0] 26)).alloc (.cells #[.int .i64 z] 35)).alloc (.cells #[.slice none 0 0, .slice (some ⟨w.heap.size + 1, 0, none⟩) 1 1] 26) = X ∧ w.heap.size = R ∧ w.heap.size + 1 = g ∧ w.heap.size + 1 + 1 = O ∧ Below w.heap.size w W ∧ R < W.heap.size ∧ Var W R ∧ R < O ∧
    St W O (.slice none 0 0) (.slice (some ⟨g, 0, none⟩) 1 1) (.slice none 0 0) (.slice (some ⟨g, 0, none⟩) 1 1) [] [z] X := by
  refine ⟨_, _, _, _, _, rfl, rfl, rfl, rfl, below_new w _, by simp, Var.new w rfl _, by omega, St.new (Row.nil _ _ _) ?_ (below_new _ _) (by simp)⟩
  have := Row.lit1 (el := 35) (base := (w.alloc (.cells #[.slice none 0 0, .slice none 0 0] 26)).heap.size) (w.alloc (.cells #[.slice none 0 0, .slice none 0 0] 26)) z (Nat.le_refl _)
  rw [show (w.alloc (.cells #[.slice none 0 0, .slice none 0 0] 26)).heap.size = w.heap.size + 1 from by simp] at this ⊢
  exact this

/-- A row of pairs that a call holds while rows of numbers grow. -/
def Prs (base : Nat) (w : World) (v : Value) (l : List (Int × Int)) : Prop := w.ownsRow base 61 2 v l.length (cellsP l)
section
variable {base : Nat} {w w' : World} {v : Value} {l : List (Int × Int)}
theorem Prs.grown {el : TypeId} {b : Nat} {z : Value} {zs : List Int} (h : Prs base w v l) (hr : Row el b w z zs) (hg : w.grownBy w' z.ownBlock) (hne : el ≠ 61) : Prs base w' v l := by
  refine World.ownsRow.kept h hg ?_
  rcases h.2 with ⟨rfl, _⟩ | ⟨g, cap, cur, rfl, _, hgg, _⟩
  · exact .inl rfl
  · right
    rcases hr.block with h0 | ⟨g', cur', e', _, hg'⟩
    · rw [h0]; simp [Value.ownBlock]
    · rw [e']
      intro e2
      simp [Value.ownBlock] at e2
      subst e2
      rw [hgg] at hg'
      injection hg' with hg'
      injection hg' with _ ht
      exact hne ht.symm
theorem Prs.set_ {W : World} {O : Nat} {a b u z : Value} {ks ws : List Int} (h : Prs base w v l) (hs : St W O a b u z ks ws w) (j : Nat) (x : Value) : Prs base (w.setCell ⟨O, j, none⟩ x) v l := by
  refine World.ownsRow.kept h (grown_set w ⟨O, j, none⟩ x) ?_
  rcases h.2 with ⟨rfl, _⟩ | ⟨g, cap, cur, rfl, _, hgg, _⟩
  · exact .inl rfl
  · right
    intro e2
    simp [Value.ownBlock] at e2
    subst e2
    have := hs.var
    rw [hgg] at this
    injection this with this
    injection this with _ ht
    exact absurd ht (by decide)
theorem Prs.alloc (h : Prs base w v l) (o : Obj) : Prs base (w.alloc o) v l := World.ownsRow.alloc h o
theorem Prs.at_ {A : Option Addr} {n c : Nat} (h : Prs base w (.slice A n c) l) {k : Nat} (hk : k < l.length) :
    ∃ b off, A = some ⟨b, off, none⟩ ∧ b < w.heap.size ∧ w.cell? ⟨b, off + k * 2, none⟩ = some (.int .i64 l[k].1) ∧ w.cell? ⟨b, off + k * 2 + 1, none⟩ = some (.int .i64 l[k].2) := by
  have hl : n = l.length := by
    rcases h.2 with ⟨e, h0⟩ | ⟨g, cap, cur, e, _⟩
    · omega
    · injection e
  subst hl
  exact (Lf.of_own h).at_ hk
end

set_option maxHeartbeats 2000000 in
theorem of_walk (A : Option Addr) (n c : Nat) (zs : List Int) (f : Int) (w : World) (h : Sl w A n c zs) (hn : n ≤ 1000) (hf0 : 0 ≤ f) (hf1 : f ≤ 1000) :
    Calls Try.prog 15 #[.slice A n c, .int .i64 f] w (MadeI w ((risingL zs).map (·.1)) (waysTo f (risingL zs).length)) := by
  have hlr : (risingL zs).length ≤ 1000 := by unfold risingL; have := risingTo_length zs zs.length; have := h.len; omega
  go_enter Try.func15, Try.ntmps15
  go_wp2_with fail
  obtain ⟨W, R, O, g, X, hX, hR, hg, hO, hb00, hs00, HV0, hRO, st0⟩ := boxedOf w f
  rw [hX, hO, hg, hR]
  have HR := Lib.hid hR
  clear hX hO hg hR
  have h1 := (h.below hb00).below st0.below
  refine (rising_walk A n c zs X h1 hn).mono ?_
  rintro e w1 ⟨v, rfl, hown⟩
  have prs0 : Prs X.heap.size w1 v (risingL zs) := hown.1
  have st1 := st0.next hown.below
  obtain ⟨A2, c2, rfl, hc2, _, _⟩ := hown.form
  clear hown st0 h1 h
  generalize hrs : risingL zs = rs at *
  have HRS := Lib.hid hrs
  clear hrs
  go_wp2
  go_loopw [14] (fun i wr => ∃ k : Nat, k ≤ rs.length ∧ i = .int .i64 (k : Int) ∧ ∃ F1 N1 f1 F2 f2, Hid (St W O (.slice F1 N1 f1) (.slice F2 (k + 1) f2) (.slice F1 N1 f1) (.slice F2 (k + 1) f2) ((rs.take k).map (·.1)) (waysTo f k) wr) ∧ Hid (Prs X.heap.size wr (.slice A2 rs.length c2) rs)) (fun i _ => rs.length - (intOf i).toNat)
  case atStart => exact ⟨0, Nat.zero_le _, rfl, none, 0, 0, some ⟨g, 0, none⟩, 1, show St _ _ _ _ _ _ _ _ _ by simpa [waysTo] using st1, prs0⟩
  case round =>
    clear st1 prs0
    obtain ⟨k, hk, rfl, F1, N1, f1, F2, f2, hst, hprs⟩ := hrel
    by_cases hlt : k < rs.length
    · have st := hst.out
      have prs := hprs.out
      obtain ⟨b, off, rfl, hbl, d1, d2⟩ := prs.at_ hlt
      have HS : Hid ((rs.take (k + 1)).map (·.1) = (rs.take k).map (·.1) ++ [rs[k].1]) := by show _ = _; rw [take_snoc rs k hlt, List.map_append]; rfl
      have HW : Hid (waysTo f (k + 1) = waysTo f k ++ [f + ((k : Int) + 1)]) := waysTo_succ f k
      have z1 : ((rs.take k).map (·.1)).length + [rs[k].1].length ≤ 100000 := by simp; omega
      have z2 : (waysTo f k).length + [f + ((k : Int) + 1)].length ≤ 100000 := by rw [waysTo_length]; simp; omega
      have j0 := st.cell0
      have j1 := st.cell1
      have q1 : O < wr.heap.size := st.lt
      clear hst hprs
      generalize rs[k] = pr at *
      generalize (rs.take k).map (·.1) = kl at *
      have HL : Hid (k + 1 = (waysTo f k).length) := (waysTo_length f k).symm
      generalize waysTo f k = wl at *
      go_wp2_with (first
        | (at_builtin; refine pushN rowK (base := W.heap.size) rfl (.tmp 19) (.tmp 22) rfl _ kl rfl ((st.alloc _).alloc _).keys (some ⟨wr.heap.size + 1, 0, none⟩) 1 1 [pr.1] rfl (sl_one (by simp)) z1 ((st.alloc _).alloc _).size ?_
           intro u4 w4 hr4 hg4
           have st4 := ((st.alloc _).alloc _).pushK hr4 hg4
           have prs4 := ((prs.alloc _).alloc _).grown ((st.alloc _).alloc _).keys hg4 (by decide)
           obtain ⟨F4, N4, f4, rfl⟩ := hr4.shape
           have j0 := st4.cell0
           have j1 := st4.cell1
           have j2 := st4.free 0
           have q4 : O < w4.heap.size := st4.lt
           have st5 := st4.set0 (.slice F4 N4 f4)
           have prs5 := prs4.set_ st4 0 (.slice F4 N4 f4)
           clear hr4 hg4)
        | (at_builtin; refine pushN rowR (base := W.heap.size) rfl (.tmp 26) (.tmp 32) rfl _ wl rfl (st5.alloc _).ways (some ⟨w4.heap.size, 0, none⟩) 1 1 [f + ((k : Int) + 1)] rfl (sl_one (c_new (by simp) rfl)) z2 (st5.alloc _).size ?_
           intro u6 w6 hr6 hg6
           have st6 := (st5.alloc _).pushR hr6 hg6
           have prs6 := (prs5.alloc _).grown (st5.alloc _).ways hg6 (by decide)
           obtain ⟨F6, N6, f6, rfl⟩ := hr6.shape
           have HN6 : Hid (N6 = k + 1 + 1) := by
             obtain ⟨_, _, e, s⟩ := hr6.form
             injection e with _ e
             show _ = _
             rw [e, List.length_append, ← HL.out]; rfl
           have j0 := st6.cell0
           have j1 := st6.cell1
           have j2 := st6.free 1
           have st7 := st6.set1 (.slice F6 N6 f6)
           have prs7 := prs6.set_ st6 1 (.slice F6 N6 f6)
           have ST7 := Lib.hid st7
           have PRS7 := Lib.hid prs7
           clear hr6 hg6 st7 prs7 st6 prs6))
      go_roundw
      case rel => exact ⟨k + 1, by omega, by go_num, F4, N4, f4, F6, f6, show St _ _ _ _ _ _ _ _ _ by rw [HS.out, HW.out, ← HN6.out]; exact ST7.out, PRS7.out⟩
      case measure => simp [intOf]; omega
    · have hall : rs.take k = rs := List.take_of_length_le (by omega)
      have hkk : k = rs.length := by omega
      have st := hst.out
      rw [hall] at st
      have k0 := st.cell0
      have k1 := st.cell1
      obtain ⟨t0, t1, u0, u1⟩ := HV0.below st.below
      have HZ := Lib.hid (st.end_ hb00 hs00 (Nat.le_of_eq HR.out))
      have HKK := Lib.hid hkk
      have l3 : R ≠ O := by omega
      have l4 : O ≠ R := by omega
      clear st hst hall hkk hprs
      go_wp2
      refine bodyPost_ret (results_stored rfl rfl t0 t1) rfl ?_
      rw [HRS.out, ← HKK.out]
      exact HZ.out
end Go.Proofs.Ytpbbkfpapmomhaa
