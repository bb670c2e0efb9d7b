/-
  A thread that looks for a key's leaf.
-/
import Derived.Test.YtmnldlhpiapalaaLf11
import Derived.Test.YtmnldlhpiapalaaPi
namespace Go.Proofs.Ytmnldlhpiapalaa
open Go.ChangeShapes Go.WideShapes Go.ChangeAt Go.RowKit
set_option linter.unusedVariables false
set_option linter.unusedSimpArgs false
set_option maxRecDepth 20000

/-- What SeekLeaf's thread tells of a way. -/
def lfOut (key : Int) (l : List Sp) : List Int := [(last2 l).1.rf, (last2 l).1.wy, (last2 l).2.rf, wantL (last2 l).2.nd.ps key]
theorem last2_two (l0 : List Sp) (x0 x1 : Sp) : last2 (l0 ++ [x0, x1]) = (x0, x1) := by
  unfold last2
  have e : (l0 ++ [x0, x1]).length = l0.length + 2 := by simp
  rw [if_neg (by omega), e]
  have e1 : (l0 ++ [x0, x1])[l0.length + 2 - 2]? = some x0 := by rw [List.getElem?_append_right (by omega)]; simp
  have e2 : (l0 ++ [x0, x1])[l0.length + 2 - 1]? = some x1 := by
    rw [List.getElem?_append_right (by omega), show l0.length + 2 - 1 - l0.length = 1 from by omega]; rfl
  simp only [List.getD_eq_getElem?_getD, e1, e2, Option.getD_some]
theorem lfOut_two (key : Int) (l0 : List Sp) (x0 x1 : Sp) : lfOut key (l0 ++ [x0, x1]) = [x0.rf, x0.wy, x1.rf, wantL x1.nd.ps key] := by
  unfold lfOut
  rw [last2_two]
theorem rets_nd {nds : List (Int × Nd)} {rk : Int → Nat} {key : Int} {Q : Nd → Prop} (hN : ∀ x ∈ nds, Q x.2) (f : Nat) (r : Int) (acc : List Sp) (ha : ∀ x ∈ acc, Q x.nd) : rets (fun l => ∀ x ∈ l, Q x.nd) (tPath nds rk key f r acc) := by
  induction f generalizing r acc with
  | zero => exact fun _ x hx => by cases hx
  | succ f ih =>
    unfold tPath
    split
    · exact fun _ x hx => by cases hx
    · rename_i nd hl
      have h2 : ∀ x ∈ acc ++ [(⟨r, nd, wyOf nd key⟩ : Sp)], Q x.nd := fun x hx => by
        rcases List.mem_append.1 hx with e | e
        · exact ha x e
        · obtain rfl := List.mem_singleton.1 e
          exact hN _ (lookup_mem hl)
      split
      · split
        · exact fun z => ih z _ h2
        · exact h2
      · exact fun _ x hx => by cases hx
theorem last2_nd {Q : Nd → Prop} (h0 : Q ⟨false, false, [], [], []⟩) {l : List Sp} (h : ∀ x ∈ l, Q x.nd) : Q (last2 l).2.nd := by
  unfold last2
  split
  · exact h0
  · rename_i h2
    show Q (l.getD (l.length - 1) zeroSp).nd
    rw [List.getD_eq_getElem?_getD, List.getElem?_eq_getElem (by omega)]
    exact h _ (List.getElem_mem _)
theorem leaf_two (w : World) (x0 x1 : Sp) (v1 v2 v3 v4 v5 v6 : Value) : ∃ (V : World) (u1 u2 : Nat), ((w.alloc (.cells #[.int .i64 x0.rf, .bool x0.nd.inn, .bool x0.nd.tag, v1, v2, v3, .int .i64 x0.wy] stT)).alloc (.cells #[.int .i64 x1.rf, .bool x1.nd.inn, .bool x1.nd.tag, v4, v5, v6, .int .i64 x1.wy] stT)) = V ∧ w.heap.size = u1 ∧ u1 + 1 = u2 ∧ Below w.heap.size w V ∧ Sev V u1 x0.rf x0.nd.inn x0.nd.tag v1 v2 v3 x0.wy ∧ Sev V u2 x1.rf x1.nd.inn x1.nd.tag v4 v5 v6 x1.wy := by
  have b1 := below_new w (.cells #[.int .i64 x0.rf, .bool x0.nd.inn, .bool x0.nd.tag, v1, v2, v3, .int .i64 x0.wy] stT)
  have e1 := Sev.new w rfl x0.rf x0.nd.inn x0.nd.tag v1 v2 v3 x0.wy
  have s1 : (w.alloc (.cells #[.int .i64 x0.rf, .bool x0.nd.inn, .bool x0.nd.tag, v1, v2, v3, .int .i64 x0.wy] stT)).heap.size = w.heap.size + 1 := by simp
  generalize w.alloc (.cells #[.int .i64 x0.rf, .bool x0.nd.inn, .bool x0.nd.tag, v1, v2, v3, .int .i64 x0.wy] stT) = X at b1 e1 s1 ⊢
  have b2 := below_new X (.cells #[.int .i64 x1.rf, .bool x1.nd.inn, .bool x1.nd.tag, v4, v5, v6, .int .i64 x1.wy] stT)
  exact ⟨_, _, _, rfl, rfl, rfl, b1.trans (b2.mono b1.size), e1.below b2, Sev.new X s1 _ _ _ _ _ _ _⟩
theorem sl_four {w Z : World} {g : Nat} {z1 z2 z3 z4 : Int} (hZ : w.alloc (.cells #[.int .i64 z1, .int .i64 z2, .int .i64 z3, .int .i64 z4] i6T) = Z) (hg : w.heap.size = g) : Sl Z (some ⟨g, 0, none⟩) 4 4 [z1, z2, z3, z4] := by
  subst hZ hg
  refine ⟨rfl, Nat.le_refl _, (fun e => by cases e), .inr ⟨_, 0, rfl, fun i u hu => ?_⟩⟩
  rw [cell_of_row _ _ _ _ _ (0, 0) (heap_alloc_new w _), Nat.zero_add]
  match i, hu with
  | 0, hu => simp at hu; subst hu; rfl
  | 1, hu => simp at hu; subst hu; rfl
  | 2, hu => simp at hu; subst hu; rfl
  | 3, hu => simp at hu; subst hu; rfl
section
variable {nds : List (Int × Nd)} {rk : Int → Nat} {M mo D T n : Nat} {d : Wd} {R X : Nat → Prop} {w W : World} {a me : Nat} {wk : Value} {c : Cur} {s : Sig} {key : Int} {hs : Nat → Hp} {os : Nat → Ts}
def tLf (nds : List (Int × Nd)) (rk : Int → Nat) (key : Int) (f : Nat) (r : Int) (K : List Sp → List Int) : Tr (List Int) := (tPath nds rk key f r []).bind fun l => .ret (K l)
set_option maxHeartbeats 4000000 in
theorem leaf1_walk {Bn : Nat} (hN : NdsOk nds) (hA : ∀ x ∈ nds, Asc x.2.ps) (hmo : mo ≤ 70000) (hD : D ≤ mo) (hen : (nds.lookup d.en).isSome = true ∧ rk d.en ≤ D) (h : Lv d R w a wk c s) (hP : SkI nds rk M mo s) (hpt : c.live = true → path (tLf nds rk key (D + 1) d.en (lfOut key)) (c.zs.drop c.k) s) (hR : R Bn) (hc : w.cell? ⟨Bn, 0, none⟩ = some (.int .i64 key)) :
    Calls Try.prog 43 #[tkV a d.W me, ptr Bn] w (PostW d R w a wk idO (run (tLf nds rk key (D + 1) d.en (lfOut key)) c s)) := by
  obtain ⟨W, p, hW, hp, bb, tk, hsz⟩ := one_box w a d.W me
  obtain ⟨o, ho⟩ : ∃ o, run (tLf nds rk key (D + 1) d.en (lfOut key)) c s = o := ⟨_, rfl⟩
  rw [ho]
  have HB : Hid (BT (SkI nds rk M mo) d R (fun b => R b ∨ b = p) w a me wk p o (tLf nds rk key (D + 1) d.en (lfOut key)) W c s) := by
    show BT _ _ _ _ _ _ _ _ _ _ _ _ _ _
    rw [← ho]
    exact BT.begin_ h bb (fun b e => e.imp id fun e => by omega) (fun b e => e) tk hP
  have HD := Lib.hid (leaf_touch (me := me) (K := fun l => (.ret (lfOut key l) : Tr (List Int))) hN hmo hD hen HB.out.lv HB.out.inv hpt)
  have HNO := Lib.hid hN
  have HAS := Lib.hid hA
  obtain ⟨t0, t1, t2⟩ := tk
  have hcW := below_read bb hc
  have HCW := Lib.hid hcW
  have HRB := Lib.hid hR
  clear h bb hsz hP ho hc hpt hN hen hD hA
  go_enter Try.func43, Try.ntmps43
  go_wp2_with fail
  (try rw [hW]); (try rw [hp])
  clear hW hp
  refine HD.out.mono ?_
  clear HD t0 t1 t2 hcW
  intro e w1 hPm
  rcases BT.callM (P := SkI nds rk M mo) (t := tPath nds rk key (D + 1) d.en []) (o := o) (K := fun l : List Sp => (.ret (lfOut key l) : Tr (List Int))) HB.out (keeps_kpP (kp_path _ _ _)) hPm with ⟨l, c2, s2, v, Y, rfl, hrun, hu, hB, hKp, hYn⟩ | hx
  case inr => obtain ⟨rfl, hx⟩ := hx; exact ⟨rfl, Wts.postW ⟨rfl, hx⟩⟩
  have hsm := last2_nd (Q := fun nd => nd.small) ⟨by simp, by simp, by simp⟩ (run_rets (Q := fun l : List Sp => ∀ x ∈ l, x.nd.small) (rets_small HNO.out (D + 1) d.en [] fun x hx => by cases hx) hrun)
  have has := last2_nd (Q := fun nd => Asc nd.ps) List.Pairwise.nil (run_rets (Q := fun l : List Sp => ∀ x ∈ l, Asc x.nd.ps) (rets_nd (Q := fun nd => Asc nd.ps) HAS.out (D + 1) d.en [] fun x hx => by cases hx) hrun)
  have hu : LfU l Y w1 v := hu
  obtain ⟨P1, n1, q1, P2, n2, q2, P3, n3, q3, P4, n4, q4, P5, n5, q5, P6, n6, q6, rfl, hlp⟩ := hu
  have hcw1 : w1.cell? ⟨Bn, 0, none⟩ = some (.int .i64 key) := cell_same (hKp.block Bn (.inl HRB.out)) HCW.out
  have HE : Hid (∀ (w' : World) (A : Option Addr) (n k : Nat), Below w1.heap.size w1 w' → Sl w' A n k (lfOut key l) → PostW d R w a wk idO o (.returned (.slice A n k)) w') := by
    intro w' A n k hb hsl
    have hRN := hB.rn
    show PostW _ _ _ _ _ _ _ _ _
    rw [hRN]
    exact ⟨hB.kp.trans (Kp.below hb fun b e => hB.lv.lt b (.inl (.inl e))), ⟨A, n, k, rfl, hsl, by show (lfOut key l).length ≤ 1000; simp [lfOut]⟩, (hB.lv.below hb).mono fun b e => .inl (.inl e)⟩
  have hLO : lfOut key l = [(last2 l).1.rf, (last2 l).1.wy, (last2 l).2.rf, wantL (last2 l).2.nd.ps key] := rfl
  rw [hLO] at HE
  clear hLO hB hKp hYn hPm HB hrun HNO HAS
  obtain ⟨x0, hx0⟩ : ∃ x, (last2 l).1 = x := ⟨_, rfl⟩
  obtain ⟨x1, hx1⟩ : ∃ x, (last2 l).2 = x := ⟨_, rfl⟩
  rw [hx0, hx1] at HE
  rw [hx1] at hsm has hlp
  rw [hx0, hx1]
  clear hx0 hx1
  have HSM := Lib.hid hsm
  have HAS := Lib.hid has
  have HLP := Lib.hid hlp
  have HCK := Lib.hid hcw1
  clear hsm has hlp
  dsimp only
  go_upto_region 2 with fail
  obtain ⟨V, u1, u2, hV, hu1, hu2, bV, eV1, eV2⟩ := leaf_two w1 x0 x1 (.slice P1 n1 q1) (.slice P2 n2 q2) (.slice P3 n3 q3) (.slice P4 n4 q4) (.slice P5 n5 q5) (.slice P6 n6 q6)
  have hget := get_walk P4 n4 q4 x1.nd.ps key V (HLP.out.below bV).lf HAS.out (by have := HLP.out.lf.1; have := HSM.out.1; omega)
  have hwt := want_get HAS.out key
  obtain ⟨vv, hvv⟩ : ∃ z, valL x1.nd.ps key = z := ⟨_, rfl⟩
  obtain ⟨hb, hhb⟩ : ∃ b, hasL x1.nd.ps key = b := ⟨_, rfl⟩
  obtain ⟨wt, hwe⟩ : ∃ z, wantL x1.nd.ps key = z := ⟨_, rfl⟩
  rw [hvv, hhb] at hget
  rw [hvv, hhb, hwe] at hwt
  rw [hwe] at HE
  have HGET := Lib.hid hget
  have HBV := Lib.hid bV
  have HV1 := Lib.hid eV1
  have HV2 := Lib.hid eV2
  have hcV := below_read bV HCK.out
  obtain ⟨y0, y1, y2, y3, y4, y5, y6⟩ := eV2.cells
  clear hget hvv hhb hwe bV eV1 eV2 hcw1
  (try rw [hV]); (try rw [hu1]); (try rw [hu2])
  clear hV hu1 hu2
  go_wp2_with fail
  refine HGET.out.mono ?_
  clear HGET y0 y1 y2 y3 y4 y5 y6 hcV
  rintro e w3 ⟨rfl, b3⟩
  obtain ⟨z0, z1, z2, z3, z4, z5, z6⟩ := (HV1.out.below b3).cells
  obtain ⟨y0, y1, y2, y3, y4, y5, y6⟩ := (HV2.out.below b3).cells
  have HB3 : Hid (Below w1.heap.size w1 w3) := HBV.out.trans (b3.mono HBV.out.size)
  clear b3
  cases hb with
  | false =>
    have hwt : wt = -1 := hwt
    rw [hwt] at HE
    clear hwt
    go_upto_region 5 with fail
    obtain ⟨Z, g, hZ, hg, bZ⟩ : ∃ (Z : World) (g : Nat), w3.alloc (.cells #[.int .i64 x0.rf, .int .i64 x0.wy, .int .i64 x1.rf, .int .i64 (-1)] i6T) = Z ∧ w3.heap.size = g ∧ Below w3.heap.size w3 Z := ⟨_, _, rfl, rfl, below_new _ _⟩
    have HF := Lib.hid (HE.out Z _ 4 4 (HB3.out.trans (bZ.mono HB3.out.size)) (sl_four hZ hg))
    clear HE bZ
    go_wp2_with fail
    (try rw [hZ]); (try rw [hg])
    go_ret
    exact HF.out
  | true =>
    have hwt : wt = vv := hwt
    rw [hwt] at HE
    clear hwt
    go_upto_region 5 with fail
    obtain ⟨Z, g, hZ, hg, bZ⟩ : ∃ (Z : World) (g : Nat), w3.alloc (.cells #[.int .i64 x0.rf, .int .i64 x0.wy, .int .i64 x1.rf, .int .i64 vv] i6T) = Z ∧ w3.heap.size = g ∧ Below w3.heap.size w3 Z := ⟨_, _, rfl, rfl, below_new _ _⟩
    have HF := Lib.hid (HE.out Z _ 4 4 (HB3.out.trans (bZ.mono HB3.out.size)) (sl_four hZ hg))
    clear HE bZ
    go_wp2_with fail
    (try rw [hZ]); (try rw [hg])
    go_ret
    exact HF.out
abbrev lf1F : Nat := 43
theorem leaf_job {Bn : Nat} {w : World} (hN : NdsOk nds) (hA : ∀ x ∈ nds, Asc x.2.ps) (hmo : mo ≤ 70000) (hD : D ≤ mo) (hen : Ok1 nds rk D d.en) (hc : w.cell? ⟨Bn, 0, none⟩ = some (.int .i64 key)) (hR : R Bn) : Job d R w lf1F me #[ptr Bn] (SkI nds rk M mo) (tLf nds rk key (D + 1) d.en (lfOut key)) idO := by
  intro a wk R' w' h1 h2 w1 R1 zs st s h3 h4 h5 h6 h7 gp
  exact leaf1_walk (mo := mo) hN hA hmo hD ⟨hen.at_, hen.rk⟩ h7 h6 (fun _ => gp) (h3 _ (h1 _ hR)) (cell_same ((h4 _ (h1 _ hR)).trans (h2 _ hR)) hc)
theorem nl_tLf {K : List Sp → List Int} {r : Int} {f : Nat} (h : Ok1 nds rk f r) : nl (tLf nds rk key (f + 1) r K) := by
  rcases nl_path (K := fun l => (.ret (K l) : Tr (List Int))) (key := key) (acc := []) h with e | ⟨l, e⟩
  · exact e
  · unfold tLf; rw [e]; exact trivial
theorem hd_tLf {K : List Sp → List Int} {r : Int} {f : Nat} (h : Ok1 nds rk f r) : hd (tLf nds rk key (f + 1) r K) s := by
  have := nl_tLf (key := key) (K := K) h
  cases e : tLf nds rk key (f + 1) r K with
  | ret v => exact trivial
  | tch g K => exact trivial
  | lk n K => rw [e] at this; exact this.elim
theorem MB.leafer {Bn : Nat} (h : MB W X d n T hs os s w) (hN : NdsOk nds) (hA : ∀ x ∈ nds, Asc x.2.ps) (hmo : mo ≤ 70000) (hD : D ≤ mo) (hen : Ok1 nds rk D d.en) (hc : w.cell? ⟨Bn, 0, none⟩ = some (.int .i64 key)) (hX : Bn < W.heap.size ∨ X Bn) :
    Calls Try.prog 25 #[ptr d.W, .int .i64 0, .func (.func lf1F) #[] #[ptr Bn]] w fun e w' => ∃ a, e = .returned (ptr a) ∧ MB W X d (n + 1) T (upd hs n ⟨a, 0, lf1F, #[ptr Bn], tLf nds rk key (D + 1) d.en (lfOut key), SkI nds rk M mo⟩) (upd os n (.run (tLf nds rk key (D + 1) d.en (lfOut key)))) s w' ∧ Below w.heap.size w w' := by
  have hS0 := h.me.start (me := 0) (f := lf1F) (cap := #[ptr Bn]) (Pr := SkI nds rk M mo) (leaf_job (R := fun b => b < W.heap.size ∨ X b) hN hA hmo hD hen hc hX) (fun a W => rfl) (hd_tLf hen)
  rw [nrm_nl (nl_tLf hen)] at hS0
  refine hS0.mono ?_
  rintro e w1 ⟨a, rfl, hM1, hb1⟩
  exact ⟨a, rfl, ⟨hM1, h.bel.trans (hb1.mono h.bel.size)⟩, hb1⟩
end
end Go.Proofs.Ytmnldlhpiapalaa
