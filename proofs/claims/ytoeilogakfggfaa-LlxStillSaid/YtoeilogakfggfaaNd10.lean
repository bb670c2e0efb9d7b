/-
  What the laws' Nodes returns.
-/
import Derived.Test.YtoeilogakfggfaaHl10
namespace Go.Proofs.Ytoeilogakfggfaa
open Go.ChangeShapes Go.WideShapes Go.ChangeAt Go.RowKit
set_option linter.unusedVariables false
set_option linter.unusedSimpArgs false
set_option maxRecDepth 20000

def h0 : Nat → Hp := fun _ => ⟨0, 0, 0, #[], .ret [], fun _ => True⟩
def o0 : Nat → Ts := fun _ => .fin []
/-- The first k nodes' references. -/
def refN (k : Nat) : List Int := (List.range k).map rfN
theorem refN_len (k : Nat) : (refN k).length = k := by simp [refN]
theorem refN_snoc (k : Nat) : refN (k + 1) = refN k ++ [rfN k] := by simp [refN, List.range_succ]
theorem refN_at {k i : Nat} (h : i < k) : (refN k)[i]? = some (rfN i) := by simp [refN, h]
/-- The nodes' slice, in blocks of X. -/
structure NL (X : Nat → Prop) (w : World) (v : Value) (rs : List Int) : Prop where
  row : Row 34 0 w v rs
  own : ∀ b, v.ownBlock = some b → X b
def ownX (W : World) (v : Value) (b : Nat) : Prop := v.ownBlock = some b ∧ W.heap.size ≤ b
structure NdI (W : World) (d : Wd) (L m k : Nat) (v : Value) (w : World) : Prop where
  mb : MB W (ownX W v) d 0 0 h0 o0 (sN L k ns0 []) w
  row : Row 34 0 w v (refN k)
  own : ∀ b, v.ownBlock = some b → W.heap.size ≤ b
  dm : d.m = m
theorem sN_zero (L : Nat) : sN L 0 ns0 [] = newSig 60 L := rfl
theorem inv_ns0 (L k B : Nat) (hk : k ≤ 50) (hL : L ≤ 64) (hB : B ≤ 900) (rs : List Re) (hrs : rs.length ≤ 1000) : Inv L B (sN L k ns0 rs) := inv_sN hk hL hB (fun i _ => in01.1) hrs
theorem NdI.push {W w1 : World} {d : Wd} {L m k : Nat} {v : Value} {w : World} (h : NdI W d L m k v w) (hw : MB W (ownX W v) d 0 0 h0 o0 (sN L (k + 1) ns0 []) w1) (hk : k ≤ 1000) (hK : ∀ b, v.ownBlock = some b → w1.heap[b]? = w.heap[b]?) :
    ∃ A' m' c' Z, (Builtin.append_ #[26, 26] 26 #[v, .slice (some ⟨w1.heap.size, 0, none⟩) 1 1]).run Try.prog (w1.alloc (.cells #[.int .i64 (rfN k)] 34)) = .ok (.slice A' m' c') Z ∧ NdI W d L m (k + 1) (.slice A' m' c') Z := by
  have hb := below_new w1 (.cells #[.int .i64 (rfN k)] 34)
  have h1 := hw.below hb
  have r1 : Row 34 0 (w1.alloc (.cells #[.int .i64 (rfN k)] 34)) v (refN k) := own_at h.row fun b e => (hb.block b (hw.lt b ⟨e, h.own b e⟩)).trans (hK b e)
  obtain ⟨A', m', c', Z, q1, q2, q3, q4⟩ := run_pushN rowR (w := w1.alloc (.cells #[.int .i64 (rfN k)] 34)) r1 (sl_one9 (z := rfN k) (c_new rfl rfl)) (by rw [refN_len]; simp; omega) (by simp)
  have hl : ∀ b, (Value.slice A' m' c').ownBlock = some b → b < Z.heap.size := fun b e => (World.ownsRow.lt q2 b e).2
  refine ⟨A', m', c', Z, q1, h1.kept q3 (fun b e => ⟨⟨e, h.own b e⟩, h.own b e⟩) (fun b e => ?_), by rw [refN_snoc]; exact q2, fun b e => ?_, h.dm⟩
  · rcases q4 b e.1 with e2 | e2
    · exact .inl ⟨e2, e.2⟩
    · exact .inr ⟨e2, hl b e.1⟩
  · rcases q4 b e with e2 | e2
    · exact h.own b e2
    · exact Nat.le_trans h1.bel.size e2
set_option maxHeartbeats 1000000 in
theorem nodes_walk (L k : Nat) (hL : 1 ≤ L ∧ L ≤ 64) (hk : k ≤ 20) (w : World) :
    Calls Try.prog 6 #[.int .i64 (L : Int), .int .i64 (k : Int)] w fun e w' => ∃ d A m c, e = .returned (.tuple #[ptr d.W, .slice A m c]) ∧ NdI w d L 40 k (.slice A m c) w' := by
  have HN := Lib.hid (new_ok (a := 2) (b := 3) (t := (L : Int)) (n := 60) (r := 40) w (by omega) (by omega) (by omega) (by omega) (by omega))
  go_enter Try.func6, Try.ntmps6
  go_wp2_with fail
  refine HN.out.mono ?_
  intro e w1 hP
  rw [Int.toNat_natCast] at hP
  have hP : NewW w 2 3 60 L 40 e w1 := hP
  obtain ⟨d, rfl, -, -, -, hm, hO⟩ := Ow.new (Below.refl w.heap.size w) hP
  have HI : Hid (NdI w d L 40 0 (.slice none 0 0) w1) := ⟨⟨ME.none_ (by rw [sN_zero]; exact hO.idle.mono fun b e => e.elim id fun e => (by cases e.1)), hO.below⟩, Row.nil _ _ _, fun b e => (by cases e), hm⟩
  clear HN hP hO hm
  go_wp2_with fail
  go_loopg [18, 8] k (fun gk i tv wr => ∃ (j : Nat) (A : Option Addr) (m c : Nat), j + gk = k ∧ i = .int .i64 (j : Int) ∧ tv = .slice A m c ∧ Hid (NdI w d L 40 j (.slice A m c) wr))
  case atStart => exact ⟨0, none, 0, 0, by omega, rfl, rfl, HI.out⟩
  case round =>
    clear HI
    obtain ⟨j, A, m, c, hj, rfl, rfl, HH⟩ := hrel
    by_cases hlt : j < k
    case neg =>
      have i1 : ¬ ((j : Int) < (k : Int)) := by omega
      obtain rfl : j = k := by omega
      go_wp2
      go_ret2
      exact ⟨d, A, m, c, rfl, HH.out⟩
    have i1 : (j : Int) < (k : Int) := by omega
    have hkw : IntKind.i64.wrap ((j : Int) + 1) = (j : Int) + 1 := IntWalk.i64_in _ (by omega)
    have m1 : IntKind.i64.wrap (10 * (j : Int)) = 10 * (j : Int) := IntWalk.i64_in _ (by omega)
    have m2 : IntKind.i64.wrap (200 + 10 * (j : Int)) = 200 + 10 * (j : Int) := IntWalk.i64_in _ (by omega)
    have m3 : IntKind.i64.wrap (201 + 10 * (j : Int)) = 201 + 10 * (j : Int) := IntWalk.i64_in _ (by omega)
    obtain ⟨g0, -, -, -, -, -⟩ := HH.out.mb.cells
    obtain ⟨Y, p, q, hY, hp, hq, bY, cp, cq0, cq1, sY⟩ : ∃ (Y : World) (p q : Nat), (wr.alloc (.cells #[.int .i64 5] 2)).alloc (.cells #[.int .i64 (200 + 10 * (j : Int)), .int .i64 (201 + 10 * (j : Int))] 34) = Y ∧ wr.heap.size = p ∧ p + 1 = q ∧ Below wr.heap.size wr Y ∧ Y.cell? ⟨p, 0, none⟩ = some (.int .i64 5) ∧ Y.cell? ⟨q, 0, none⟩ = some (.int .i64 (200 + 10 * (j : Int))) ∧ Y.cell? ⟨q, 1, none⟩ = some (.int .i64 (201 + 10 * (j : Int))) ∧ Y.heap.size = q + 1 :=
      ⟨_, _, _, rfl, rfl, rfl, ((Below.refl _ wr).alloc (Nat.le_refl _) _).alloc (by simp) _, c_old (c_new rfl rfl), c_new (by simp) rfl, c_new (by simp) rfl, by simp⟩
    have HY := Lib.hid (HH.out.mb.below bY)
    have hRd : ∀ FW, WS d FW Y (sN L j ns0 []) → FW = FW → (∀ b, wr.heap.size ≤ b → ¬ FW b) → RdF FW Y (ndv true false (.slice none 0 0) (.slice (some ⟨p, 0, none⟩) 1 1) (.slice (some ⟨q, 0, none⟩) 2 2)) (nodeNd j) := by
      intro FW hW _ hno
      refine ⟨none, 0, some ⟨p, 0, none⟩, 1, some ⟨q, 0, none⟩, 2, rfl, Lp.nil _, sl_one9 cp, ?_, ?_⟩
      · show Sl Y _ 2 2 [200 + 10 * (j : Int), 201 + 10 * (j : Int)]
        exact sl_two9 cq0 cq1
      · rintro ad (e | e | e)
        · cases e
        · injection e with e; subst e; exact hno p (by omega)
        · injection e with e; subst e; exact hno q (by omega)
    have HM : Hid (Calls Try.prog 30 #[ptr d.A, ndv true false (.slice none 0 0) (.slice (some ⟨p, 0, none⟩) 1 1) (.slice (some ⟨q, 0, none⟩) 2 2)] Y fun e w' => ∃ b, e = .returned (.tuple #[.int .i64 (rfN j), .bool b]) ∧ MB w (ownX w (.slice A m c)) d 0 0 h0 o0 (sN L (j + 1) ns0 []) w' ∧ ∀ b, (Value.slice A m c).ownBlock = some b → w'.heap[b]? = wr.heap[b]?) := by
      obtain ⟨⟨FW, P, hMS⟩, hbl⟩ := HH.out.mb
      have hI := inv_ns0 L j 0 (by omega) hL.2 (by omega) [] (by simp)
      have hno : ∀ b, wr.heap.size ≤ b → ¬ FW b := fun b e f => by have := hMS.ws.lt b f; omega
      have hMY : MS d (fun b => b < w.heap.size ∨ ownX w (.slice A m c) b) 0 0 h0 o0 (sN L j ns0 []) FW P Y := ⟨hMS.ws.below bY, fun b e => ⟨Nat.lt_of_lt_of_le (hMS.rs b e).1 bY.size, (hMS.rs b e).2⟩, fun i hi => absurd hi (by omega), fun i j b hi => absurd hi (by omega), fun i hi => absurd hi (by omega)⟩
      refine (nxW_make hMY.ws hI.fit.ok hI.fit.fr (hRd FW hMY.ws rfl hno) (by unfold Nd.small nodeNd; simp)).mono ?_
      rintro e w' ⟨b, rfl, hn⟩
      have hmk : gMake (nodeNd j) (sN L j ns0 []) = (rfN j, sN L (j + 1) ns0 []) := by
        simp only [gMake, sN]
        rw [arN_make (by omega) rfl]
      rw [hmk] at hn ⊢
      obtain ⟨k1, k2⟩ := hMY.nx hn (.inl rfl)
      refine ⟨b, rfl, ⟨k1, (hbl.trans (bY.mono hbl.size)).trans (kp_below (k2.mono fun b e => .inl e))⟩, fun b e => ?_⟩
      have hX : ownX w (.slice A m c) b := ⟨e, HH.out.own b e⟩
      exact (k2.block b (.inr hX)).trans (bY.block b (HH.out.mb.lt b hX))
    clear hRd cp cq0 cq1 sY bY HY
    go_wp2_with fail
    (try rw [hY]); (try rw [hp]); (try rw [hq])
    refine HM.out.mono ?_
    rintro e w2 ⟨b, rfl, hM, hKb⟩
    obtain ⟨A', m', c', Z, happ, hN⟩ := HH.out.push hM (by omega) hKb
    have HN := Lib.hid hN
    clear HM hM hKb HH hN g0 m1 m2 m3 hY hp hq
    go_wp2_with (at_builtin; refine Lib.wpList_append_run _ rfl _ _ _ _ rfl _ _ rfl rfl _ _ happ ?_)
    go_roundg (gk - 1)
    case measure => omega
    case rel => exact ⟨j + 1, A', m', c', by omega, by go_num, rfl, HN.out⟩
end Go.Proofs.Ytoeilogakfggfaa
