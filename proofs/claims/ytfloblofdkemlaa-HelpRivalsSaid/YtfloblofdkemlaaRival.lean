/-
  What the laws' rival returns.
-/
import Derived.Test.YtfloblofdkemlaaRb9
import Derived.Test.YtfloblofdkemlaaTailX
import Derived.Test.YtfloblofdkemlaaMo9
import Derived.Lib.AppendZeros
namespace Go.Proofs.Ytfloblofdkemlaa
open Go.ChangeShapes Go.WideShapes Go.ChangeAt Go.RowKit
set_option linter.unusedVariables false
set_option linter.unusedSimpArgs false
set_option maxRecDepth 20000

def bitR (sa i : Nat) : Bool := decide (sa / 2 ^ i % 2 = 1)
def lstR (sa j : Nat) : List Nat := (List.range j).filter (bitR sa)
def odR (sa j : Nat) : Int := match lstR sa j with
  | [] => 0
  | i :: _ => 200 + 10 * (i : Int)
theorem lstR_snoc (sa j : Nat) : lstR sa (j + 1) = lstR sa j ++ (if bitR sa j = true then [j] else []) := by
  unfold lstR
  rw [List.range_succ, List.filter_append]
  congr 1
  cases h : bitR sa j <;> simp [h]
theorem lstR_len (sa j : Nat) : (lstR sa j).length ≤ j := by
  have := List.length_filter_le (bitR sa) (List.range j)
  unfold lstR
  simpa using this
theorem odR_step (sa j : Nat) (hb : bitR sa j = true) : odR sa (j + 1) = if lstR sa j = [] then 200 + 10 * (j : Int) else odR sa j := by
  unfold odR
  rw [lstR_snoc, if_pos hb]
  cases lstR sa j <;> simp
def rR (sa : Nat) (nw : Int) : Rc := rcN (lstR sa 5) (List.replicate (lstR sa 5).length 0) 1 0 (odR sa 5) nw
/-- The variable, behind j nodes. -/
def RVL (W w0 : World) (X : Nat → Prop) (q sa j : Nat) (nw : Int) (d : Wd) (s : Sig) (w : World) : Prop := ∃ A m c B m' c', RB W w0 X q (.slice A m c) (.slice B m' c') 1 0 (odR sa j) nw (.slice A m c) (.slice B m' c') ((lstR sa j).map rfN) (List.replicate (lstR sa j).length 0) d s w
theorem results_rival {fn : Func} {t t2 : Tmp} {R : Nat} {u v x : Value} {k y o n : Int} {tmps : Array Value} {w : World} (h : fn.results = #[.cell t 55, .tmp t2]) (ht : tmps.getD t undef = .pointer (some ⟨R, 0, none⟩)) (ht2 : tmps.getD t2 undef = x)
    (h6 : Six w R u v k y o n) : (results fn tmps).run Try.prog w = .ok (.tuple #[.agg #[u, v, .int .i64 k, .int .i64 y, .int .i64 o, .int .i64 n], x]) w := by
  have := load_six h6
  have ht' : tmps[t]?.getD undef = .pointer (some ⟨R, 0, none⟩) := by simpa using ht
  have ht2' : tmps[t2]?.getD undef = x := by simpa using ht2
  simp [results, h, ht', ht2', asAddr, this]
theorem MB.set {W : World} {X : Nat → Prop} {d : Wd} {n T : Nat} {hs : Nat → Hp} {os : Nat → Ts} {s : Sig} {w : World} {b j : Nat} {v : Value} (h : MB W X d n T hs os s w) (hX : X b) (hb : W.heap.size ≤ b) : MB W X d n T hs os s (w.setCell ⟨b, j, none⟩ v) :=
  h.kept (grown_set w ⟨b, j, none⟩ v) (fun c e => by injection e with e; subst e; exact ⟨hX, hb⟩) (fun c e => .inl e)
/-- The record is stored for the caller. -/
theorem RB.last {W Y0 u1 : World} {X : Nat → Prop} {q R : Nat} {vA vB : Value} {od nw : Int} {l li : List Int} {d : Wd} {s : Sig} (h : RB W Y0 (fun b => X b ∨ b = R) q vA vB 1 0 od nw vA vB l li d s u1) (hR : W.heap.size ≤ R) :
    MB W (fun b => X b ∨ ownX W vA b) d 0 0 h0 o0 s (put6 u1 R vA vB 1 0 od nw) ∧ (∀ b, X b → b ≠ R → (put6 u1 R vA vB 1 0 od nw).heap[b]? = Y0.heap[b]?) ∧ Row rfT 0 (put6 u1 R vA vB 1 0 od nw) vA l ∧ ∀ b, vA.ownBlock = some b → W.heap.size ≤ b ∧ ¬ X b := by
  have hne : ∀ b, b ≠ R → (put6 u1 R vA vB 1 0 od nw).heap[b]? = u1.heap[b]? := by
    intro b e
    show (World.setCell _ ⟨R, 5, none⟩ _).heap[b]? = _
    rw [heap_setCell_other _ ⟨R, 5, none⟩ b _ e, heap_setCell_other _ ⟨R, 4, none⟩ b _ e, heap_setCell_other _ ⟨R, 3, none⟩ b _ e, heap_setCell_other _ ⟨R, 2, none⟩ b _ e, heap_setCell_other _ ⟨R, 1, none⟩ b _ e, heap_setCell_other _ ⟨R, 0, none⟩ b _ e]
  refine ⟨?_, fun b e e2 => (hne b e2).trans (h.kx b (.inl e)).2, own_at h.rN fun b e => hne b fun e2 => (h.oN b e).2 (.inr e2), fun b e => ⟨(h.oN b e).1, fun e2 => (h.oN b e).2 (.inl e2)⟩⟩
  exact ((((((h.mb.set (.inl (.inr rfl)) hR).set (.inl (.inr rfl)) hR).set (.inl (.inr rfl)) hR).set (.inl (.inr rfl)) hR).set (.inl (.inr rfl)) hR).set (.inl (.inr rfl)) hR).mono fun b e => e.elim (fun e => .inl (.inl e)) fun e => .inr (.inr (.inl e))
/-- What rival tells. -/
def RVP (W w : World) (X : Nat → Prop) (sa : Nat) (nw : Int) (d : Wd) (s : Sig) (e : Ending) (w' : World) : Prop :=
  ∃ A m c B m' c', e = .returned (.tuple #[.agg #[.slice A m c, .slice B m' c', .int .i64 1, .int .i64 0, .int .i64 (odR sa 5), .int .i64 nw], .int .i64 ((s.rs.length : Int) + 1)]) ∧ MB W (fun b => X b ∨ ownX W (.slice A m c) b) d 0 0 h0 o0 { s with rs := s.rs ++ [⟨rR sa nw, 1, false⟩] } w' ∧ (∀ b, X b → w'.heap[b]? = w.heap[b]?) ∧ Row rfT 0 w' (.slice A m c) ((lstR sa 5).map rfN) ∧ ∀ b, (Value.slice A m c).ownBlock = some b → W.heap.size ≤ b ∧ ¬ X b
set_option maxHeartbeats 4000000 in
theorem rival_walk {W w : World} {X : Nat → Prop} {d : Wd} {s : Sig} {A : Option Addr} {c : Nat} (sa : Nat) (nw : Int) (h : MB W X d 0 0 h0 o0 s w) (hX : ∀ b, X b → W.heap.size ≤ b) (hn : RowX X rfT w (.slice A 5 c) (refN 5)) (hsa : sa < 32) (hroom : s.rs.length < d.m) (hdm : d.m ≤ 65536) :
    Calls Try.prog 34 #[ptr d.W, .slice A 5 c, .int .u8 (sa : Int), .int .i64 nw] w (RVP W w X sa nw d s) := by
  obtain ⟨Y0, R, hY0, hR, h6R, bY0, sY0⟩ : ∃ (Y0 : World) (R : Nat), w.alloc (.cells #[.slice none 0 0, .slice none 0 0, .int .i64 0, .int .i64 0, .int .i64 0, .int .i64 0] 55) = Y0 ∧ w.heap.size = R ∧ Six Y0 R (.slice none 0 0) (.slice none 0 0) 0 0 0 0 ∧ Below w.heap.size w Y0 ∧ Y0.heap.size = R + 1 := ⟨_, _, rfl, rfl, Six.new w rfl _ _ _ _ _ _, below_new _ _, by simp⟩
  have hXl := h.lt
  have hMB0 : MB W (fun b => X b ∨ b = R) d 0 0 h0 o0 s Y0 := h.more bY0 fun b e => e.imp id fun e => by omega
  obtain ⟨Y1, q, hY1, hq, h6q, hRB⟩ := RB.new (A := none) hMB0 (fun b e => e.elim (hX b) fun e => by have := h.bel.size; omega) 1 0 0 nw
  obtain ⟨z0, z1, z2, z3, z4, z5⟩ := h6q.cells
  obtain ⟨f0, f1, f2, f3, f4, f5⟩ := h6q.frees
  obtain ⟨Y2, hY2⟩ : ∃ Y2, put6 Y1 q (.slice none 0 0) (.slice none 0 0) 1 0 0 nw = Y2 := ⟨_, rfl⟩
  rw [hY2] at hRB
  have HJ : Hid (RVL W Y0 (fun b => X b ∨ b = R) q sa 0 nw d s Y2) := ⟨none, 0, 0, none, 0, 0, hRB⟩
  have HBX : Hid (∀ b, X b → Y0.heap[b]? = w.heap[b]?) := fun b e => bY0.block b (hXl b e)
  have HRN : Hid (RowX X rfT Y0 (.slice A 5 c) (refN 5)) := ⟨own_at hn.row fun b e => bY0.block b (hXl b (hn.own b e)), hn.own⟩
  have HRX : Hid (R < Y0.heap.size ∧ ¬ X R ∧ W.heap.size ≤ R) := ⟨by omega, fun e => by have := hXl R e; omega, by have := h.bel.size; omega⟩
  have H6R := Lib.hid h6R
  have HXW := Lib.hid hX
  have HRM := Lib.hid hroom
  have HDM := Lib.hid hdm
  clear hMB0 hRB h6R h6q bY0 sY0 h hX hn hXl hroom hdm
  go_enter Try.func34, Try.ntmps34
  go_wp2_with fail
  (try rw [hY0]); (try rw [hR]); (try rw [hY1]); (try rw [hq]); (try rw [hY2])
  clear z0 z1 z2 z3 z4 z5 f0 f1 f2 f3 f4 f5 hY0 hR hY1 hq hY2
  go_loopg [19] 5 (fun gk iv wr => ∃ j : Nat, j + gk = 5 ∧ iv = .int .i64 (j : Int) ∧ Hid (RVL W Y0 (fun b => X b ∨ b = R) q sa j nw d s wr))
  case atStart => exact ⟨0, by omega, rfl, HJ.out⟩
  case round =>
    clear HJ
    obtain ⟨j, hj, rfl, HH⟩ := hrel
    by_cases hlt : j < 5
    case pos =>
      have i1 : (j : Int) < 5 := by omega
      have i0 : (0 : Int) ≤ (j : Int) := by omega
      have i8 : (j : Int) ≤ 8 := by omega
      have hkw : IntKind.i64.wrap ((j : Int) + 1) = (j : Int) + 1 := IntWalk.i64_in _ (by omega)
      have m1 : IntKind.i64.wrap (10 * (j : Int)) = 10 * (j : Int) := IntWalk.i64_in _ (by omega)
      have m2 : IntKind.i64.wrap (200 + 10 * (j : Int)) = 200 + 10 * (j : Int) := IntWalk.i64_in _ (by omega)
      have hbt := bit_u8 sa j (by omega)
      obtain ⟨A1, mm1, c1, B1, mm2, c2, hRB⟩ := HH.out
      have hnr : RowX X rfT wr (.slice A 5 c) (refN 5) := ⟨own_at HRN.out.row fun b e => (hRB.kx b (.inl (HRN.out.own b e))).2, HRN.out.own⟩
      obtain ⟨bn, cn, hv, -, hc⟩ := hnr.at_ (refN_at hlt)
      injection hv with e5 e2 e4
      subst e5 e4
      clear e2 hnr
      have HRJ : Hid (rfN j = rfN j) := rfl
      by_cases hb : sa / 2 ^ j % 2 = 1
      case neg =>
        have hb1 : ¬ bits .and .u8 ((sa : Int) / 2 ^ j) 1 = 1 := by rw [hbt]; omega
        have hbf : bitR sa j = false := decide_eq_false hb
        have HN : Hid (RVL W Y0 (fun b => X b ∨ b = R) q sa (j + 1) nw d s wr) := by
          have e1 : lstR sa (j + 1) = lstR sa j := by rw [lstR_snoc, hbf]; simp
          have e3 : odR sa (j + 1) = odR sa j := by unfold odR; rw [e1]
          show RVL _ _ _ _ _ (j + 1) _ _ _ _
          unfold RVL
          rw [e1, e3]
          exact HH.out
        clear HH hRB hbt
        generalize rfN j = rj at *
        go_wp2
        go_roundg (gk - 1)
        case measure => omega
        case rel => exact ⟨j + 1, by omega, by go_num, HN.out⟩
      have hb1 : bits .and .u8 ((sa : Int) / 2 ^ j) 1 = 1 := by rw [hbt, hb]; rfl
      have hbf : bitR sa j = true := decide_eq_true hb
      obtain ⟨x0, x1, x2, x3, x4, x5⟩ := hRB.six.cells
      obtain ⟨A', c', hv', hsl⟩ := hRB.rN.form
      injection hv' with a5 a2 a4
      subst a5 a4
      have hlen : mm1 = (lstR sa j).length := by rw [a2, List.length_map]
      have HLN := Lib.hid hlen
      have HRB := Lib.hid hRB
      have HFM : Hid (∀ (od : Int) (A2 : Option Addr) (m2 c2' : Nat) (B2 : Option Addr) (m3 c3 : Nat) (w9 : World), od = odR sa (j + 1) → RB W Y0 (fun b => X b ∨ b = R) q (.slice A2 m2 c2') (.slice B2 m3 c3) 1 0 od nw (.slice A2 m2 c2') (.slice B2 m3 c3) ((lstR sa j).map rfN ++ [rfN j]) (List.replicate (lstR sa j).length 0 ++ [0]) d s w9 → RVL W Y0 (fun b => X b ∨ b = R) q sa (j + 1) nw d s w9) := by
        rintro od A2 m2 c2' B2 m3 c3 w9 rfl h9
        have e1 : lstR sa (j + 1) = lstR sa j ++ [j] := by rw [lstR_snoc, if_pos hbf]
        refine ⟨A2, m2, c2', B2, m3, c3, ?_⟩
        rw [e1, List.map_append, List.length_append, List.length_singleton, List.replicate_succ']
        exact h9
      have HOD := Lib.hid (odR_step sa j hbf)
      clear hRB HH hsl a2 hlen hbt hbf hb
      have HMM : Hid (mm1 ≤ 5) := by show mm1 ≤ 5; rw [HLN.out]; have := lstR_len sa j; omega
      have hm5 := HMM.out
      go_upto_if 32 with fail
      go_cut [] (fun wx => ∃ od : Int, Hid (od = odR sa (j + 1) ∧ RB W Y0 (fun b => X b ∨ b = R) q (.slice A1 mm1 c1) (.slice B1 mm2 c2) 1 0 od nw (.slice A1 mm1 c1) (.slice B1 mm2 c2) ((lstR sa j).map rfN) (List.replicate (lstR sa j).length 0) d s wx))
      case first =>
        by_cases hm0 : mm1 = 0
        · subst hm0
          have f4 := HRB.out.six.free 4
          have HN : Hid (200 + 10 * (j : Int) = odR sa (j + 1) ∧ RB W Y0 (fun b => X b ∨ b = R) q (.slice A1 0 c1) (.slice B1 mm2 c2) 1 0 (200 + 10 * (j : Int)) nw (.slice A1 0 c1) (.slice B1 mm2 c2) ((lstR sa j).map rfN) (List.replicate (lstR sa j).length 0) d s (wr.setCell ⟨q, 4, none⟩ (.int .i64 (200 + 10 * (j : Int))))) := by
            refine ⟨?_, HRB.out.set _ ?_⟩
            · rw [HOD.out, if_pos (List.eq_nil_of_length_eq_zero HLN.out.symm)]
            · have := heap_setCell_same wr q 4 _ _ (.int .i64 (200 + 10 * (j : Int))) HRB.out.six
              exact this
          clear HRB HFM HOD HLN HMM
          go_wp2
          go_meet
          case rel => exact ⟨_, HN.out⟩
        · have hm0' : ¬ ((mm1 : Int) = 0) := by omega
          have HN : Hid (odR sa j = odR sa (j + 1) ∧ RB W Y0 (fun b => X b ∨ b = R) q (.slice A1 mm1 c1) (.slice B1 mm2 c2) 1 0 (odR sa j) nw (.slice A1 mm1 c1) (.slice B1 mm2 c2) ((lstR sa j).map rfN) (List.replicate (lstR sa j).length 0) d s wr) := ⟨by rw [HOD.out, if_neg (fun e => hm0 (by rw [HLN.out, e]; rfl))], HRB.out⟩
          clear HRB HFM HOD HLN HMM
          go_wp2
          go_meet
          case rel => exact ⟨_, HN.out⟩
      case rest =>
        obtain ⟨od, HX⟩ := hcut
        clear HRB x0 x1 x2 x3 x4 x5 HOD
        have HB := Lib.hid HX.out.2
        have hod := Lib.hid HX.out.1
        clear HX hm5
        obtain ⟨rj, hrj⟩ : ∃ rj, rfN j = rj := ⟨_, rfl⟩
        rw [hrj] at HFM
        (try rw [hrj] at hc)
        (try rw [hrj])
        have HEND : Hid (∀ (A2 : Option Addr) (m2 c2' : Nat) (B2 : Option Addr) (m3 c3 : Nat) (w9 : World), RB W Y0 (fun b => X b ∨ b = R) q (.slice A2 m2 c2') (.slice B2 m3 c3) 1 0 od nw (.slice A2 m2 c2') (.slice B2 m3 c3) ((lstR sa j).map rfN ++ [rj]) (List.replicate (lstR sa j).length 0 ++ [0]) d s w9 → ∃ jj : Nat, jj + (gk - 1) = 5 ∧ Value.int .i64 ((j : Int) + 1) = .int .i64 (jj : Int) ∧ Hid (RVL W Y0 (fun b => X b ∨ b = R) q sa jj nw d s w9)) := fun A2 m2 c2' B2 m3 c3 w9 h9 => ⟨j + 1, by omega, by go_num, HFM.out od A2 m2 c2' B2 m3 c3 w9 hod.out h9⟩
        have HLL : Hid ((lstR sa j).length ≤ 1000) := by show _ ≤ _; have := lstR_len sa j; omega
        have hLN : ((lstR sa j).map rfN).length = (lstR sa j).length := List.length_map _
        have hLI : (List.replicate (lstR sa j).length (0 : Int)).length = (lstR sa j).length := List.length_replicate
        clear HFM hod HLN HMM hc
        generalize (lstR sa j).map rfN = lN at *
        generalize List.replicate (lstR sa j).length (0 : Int) = lI at *
        have hLL := HLL.out
        generalize (lstR sa j).length = nl at *
        clear HLL HRJ
        go_wp2_with fail
        refine region_T (fun k => Nat.ble 10 k) (fun w' => w'.cell? ⟨q, 0, none⟩ = some (.slice A1 mm1 c1) ∧ w'.cell? ⟨q, 1, none⟩ = some (.slice B1 mm2 c2)) (by kernel_rfl) ?_
        obtain ⟨V0, hV0, bV0⟩ : ∃ V0 : World, wc.drew = V0 ∧ Below wc.heap.size wc V0 := ⟨_, rfl, (Below.refl _ wc).drew⟩
        rw [hV0]
        have hB0 := Lib.hid (HB.out.below bV0)
        have HC : Hid (∀ (v v' : Value) (l l' : List Int) (w9 : World), RB W Y0 (fun b => X b ∨ b = R) q (.slice A1 mm1 c1) (.slice B1 mm2 c2) 1 0 od nw v v' l l' d s w9 → w9.cell? ⟨q, 0, none⟩ = some (.slice A1 mm1 c1) ∧ w9.cell? ⟨q, 1, none⟩ = some (.slice B1 mm2 c2)) := fun v v' l l' w9 h9 => ⟨h9.six.cells.1, h9.six.cells.2.1⟩
        have hC := HC.out _ _ _ _ _ hB0.out
        clear hV0 bV0 HB
        refine takeX 0 37 (v := ?_) rfl rfl (by kernel_rfl) (by kernel_rfl) (by kernel_rfl) (by kernel_rfl) (by kernel_rfl) (fun _ _ _ _ h => h) hC (by rfl) ?_ ?_
        rotate_left
        · intro w hSw; (try dsimp only at hSw); go_simp; try (with_reducible rfl)
        simp only [List.setIfInBounds_toArray, List.set_cons_zero, List.set_cons_succ]
        refine takeX 1 38 (v := ?_) rfl rfl (by kernel_rfl) (by kernel_rfl) (by kernel_rfl) (by kernel_rfl) (by kernel_rfl) (fun _ _ _ _ h => h) hC (by rfl) ?_ ?_
        rotate_left
        · intro w hSw; (try dsimp only at hSw); go_simp; try (with_reducible rfl)
        simp only [List.setIfInBounds_toArray, List.set_cons_zero, List.set_cons_succ]
        refine takeX 2 39 (v := ?_) rfl rfl (by kernel_rfl) (by kernel_rfl) (by kernel_rfl) (by kernel_rfl) (by kernel_rfl) (fun _ _ _ _ h => h) hC (by rfl) ?_ ?_
        rotate_left
        · intro w hSw; (try dsimp only at hSw); go_simp; try (with_reducible rfl)
        simp only [List.setIfInBounds_toArray, List.set_cons_zero, List.set_cons_succ]
        refine takeX 5 42 (v := ?_) rfl rfl (by kernel_rfl) (by kernel_rfl) (by kernel_rfl) (by kernel_rfl) (by kernel_rfl) (fun _ _ _ _ h => h) hC (by rfl) ?_ ?_
        rotate_left
        · intro w hSw; (try dsimp only at hSw); go_simp; try (with_reducible rfl)
        simp only [List.setIfInBounds_toArray, List.set_cons_zero, List.set_cons_succ]
        refine takeX 6 43 (v := ?_) rfl rfl (by kernel_rfl) (by kernel_rfl) (by kernel_rfl) (by kernel_rfl) (by kernel_rfl) (fun _ _ _ _ h => h) hC (by rfl) ?_ ?_
        rotate_left
        · intro w hSw; (try dsimp only at hSw); go_simp; try (with_reducible rfl)
        simp only [List.setIfInBounds_toArray, List.set_cons_zero, List.set_cons_succ]
        clear hC
        refine twoT (i := 3) (j := 7) (by kernel_rfl) rfl rfl (by rfl) (by rfl) (fun K hK => ?_) (fun K hK => ?_)
        · go_simp
          obtain ⟨V1, gN, hX, hg, hbn, hgN⟩ : ∃ (X : World) (g : Nat), V0.alloc (.cells #[.int .i64 rj] rfT) = X ∧ V0.heap.size = g ∧ Below V0.heap.size V0 X ∧ X.heap[g]? = some (.cells #[.int .i64 rj] rfT (0, 0)) := ⟨_, _, rfl, rfl, below_new _ _, heap_alloc_new _ _⟩
          have hB1 := Lib.hid (hB0.out.below hbn)
          (try rw [hX]); (try rw [hg])
          refine hK.out _ _ (fun _ => HC.out _ _ _ _ _ hB1.out) ?_
          clear hK K hbn hX hg
          try simp only [Act.put, List.setIfInBounds_toArray, List.set_cons_zero, List.set_cons_succ]
          refine twoT (i := 4) (j := 7) (by kernel_rfl) rfl rfl (by rfl) (by rfl) (fun K hK => ?_) (fun K hK => ?_)
          · show Oper.wp _ _ _ _ _ _
            obtain ⟨AN, mN, cN, V2, happ, hRB, hkp⟩ := hB1.out.apN hgN (by rw [hLN]; omega)
            have hB2 := Lib.hid hRB
            refine wp_append_d (P := Try.prog) 41 _ _ _ _ rfl rfl _ _ rfl rfl happ ?_
            refine hK.out _ _ (fun _ => HC.out _ _ _ _ _ hB2.out) ?_
            clear hK K happ hRB hkp hgN
            simp only [List.setIfInBounds_toArray, List.set_cons_zero, List.set_cons_succ]
            have hC := HC.out _ _ _ _ _ hB2.out
            refine takeX 9 46 (v := ?_) rfl rfl (by kernel_rfl) (by kernel_rfl) (by kernel_rfl) (by kernel_rfl) (by kernel_rfl) (fun _ _ _ _ h => h) hC (by rfl) ?_ ?_
            rotate_left
            · intro w hSw; (try dsimp only at hSw); go_simp; try (with_reducible rfl)
            simp only [List.setIfInBounds_toArray, List.set_cons_zero, List.set_cons_succ]
            clear hC
            refine oneT (i := 7) (by kernel_rfl) rfl (by rfl) (fun K hK => ?_)
            go_simp
            obtain ⟨V3, gI, hX, hg, hbn, hgI⟩ : ∃ (X : World) (g : Nat), V2.alloc (.cells #[.int .i64 0] i6T) = X ∧ V2.heap.size = g ∧ Below V2.heap.size V2 X ∧ X.heap[g]? = some (.cells #[.int .i64 0] i6T (0, 0)) := ⟨_, _, rfl, rfl, below_new _ _, heap_alloc_new _ _⟩
            have hB3 := Lib.hid (hB2.out.below hbn)
            (try rw [hX]); (try rw [hg])
            refine hK.out _ _ (fun _ => HC.out _ _ _ _ _ hB3.out) ?_
            clear hK K hbn hX hg
            try simp only [Act.put, List.setIfInBounds_toArray, List.set_cons_zero, List.set_cons_succ]
            refine oneT (i := 8) (by kernel_rfl) rfl (by rfl) (fun K hK => ?_)
            show Oper.wp _ _ _ _ _ _
            obtain ⟨AI, mI, cI, V4, happ, hRB, hkp⟩ := hB3.out.apI hgI (by rw [hLI]; omega)
            have hB4 := Lib.hid hRB
            refine wp_append_d (P := Try.prog) 45 _ _ _ _ rfl rfl _ _ rfl rfl happ ?_
            refine hK.out _ _ (fun _ => HC.out _ _ _ _ _ hB4.out) ?_
            clear hK K happ hRB hkp hgI
            simp only [List.setIfInBounds_toArray, List.set_cons_zero, List.set_cons_succ]
            have h6 := hB4.out.six
            obtain ⟨c0, c1, c2, c3, c4, c5⟩ := h6.cells
            have f0 := h6.free 0
            have hRB1 := Lib.hid (hB4.out.set (.slice AN mN cN) (h6.set0 (.slice AN mN cN)))
            obtain ⟨Y1, hY1⟩ : ∃ Y1, V4.setCell ⟨q, 0, none⟩ (.slice AN mN cN) = Y1 := ⟨_, rfl⟩
            rw [hY1] at hRB1
            refine oneT (i := 10) (by kernel_rfl) rfl (by rfl) (fun K hK => ?_)
            go_simp
            (try rw [hY1])
            refine hK.out _ _ (fun h => absurd h (by decide)) ?_
            clear hK K c0 c1 c2 c3 c4 c5 f0 hY1 h6
            try simp only [Act.put, List.setIfInBounds_toArray, List.set_cons_zero, List.set_cons_succ]
            refine oneT (i := 11) (by kernel_rfl) rfl (by rfl) (fun K hK => ?_)
            go_simp
            refine hK.out _ _ (fun h => absurd h (by decide)) ?_
            clear hK K
            try simp only [Act.put, List.setIfInBounds_toArray, List.set_cons_zero, List.set_cons_succ]
            have h6 := hRB1.out.six
            obtain ⟨c0, c1, c2, c3, c4, c5⟩ := h6.cells
            have f1 := h6.free 1
            have hRB2 := Lib.hid (hRB1.out.set (.slice AI mI cI) (h6.set1 (.slice AI mI cI)))
            obtain ⟨Y2, hY2⟩ : ∃ Y2, Y1.setCell ⟨q, 1, none⟩ (.slice AI mI cI) = Y2 := ⟨_, rfl⟩
            rw [hY2] at hRB2
            refine oneT (i := 12) (by kernel_rfl) rfl (by rfl) (fun K hK => ?_)
            go_simp
            (try rw [hY2])
            refine hK.out _ _ (fun h => absurd h (by decide)) ?_
            clear hK K c0 c1 c2 c3 c4 c5 f1 hY2 h6
            try simp only [Act.put, List.setIfInBounds_toArray, List.set_cons_zero, List.set_cons_succ]
            refine doneT (by kernel_rfl) ?_
            have HN := Lib.hid (HEND.out _ _ _ _ _ _ _ hRB2.out)
            clear hRB1 hRB2 hB4 HC HEND
            go_wp2
            go_roundg (gk - 1)
            case measure => omega
            case rel => exact HN.out
          · go_simp
            obtain ⟨V2, gI, hX, hg, hbn, hgI⟩ : ∃ (X : World) (g : Nat), V1.alloc (.cells #[.int .i64 0] i6T) = X ∧ V1.heap.size = g ∧ Below V1.heap.size V1 X ∧ X.heap[g]? = some (.cells #[.int .i64 0] i6T (0, 0)) := ⟨_, _, rfl, rfl, below_new _ _, heap_alloc_new _ _⟩
            have hB2 := Lib.hid (hB1.out.below hbn)
            have hgN := (hbn.block _ (Array.getElem?_eq_some_iff.1 hgN).1).trans hgN
            (try rw [hX]); (try rw [hg])
            refine hK.out _ _ (fun _ => HC.out _ _ _ _ _ hB2.out) ?_
            clear hK K hbn hX hg
            try simp only [Act.put, List.setIfInBounds_toArray, List.set_cons_zero, List.set_cons_succ]
            refine oneT (i := 4) (by kernel_rfl) rfl (by rfl) (fun K hK => ?_)
            show Oper.wp _ _ _ _ _ _
            obtain ⟨AN, mN, cN, V3, happ, hRB, hkp⟩ := hB2.out.apN hgN (by rw [hLN]; omega)
            have hB3 := Lib.hid hRB
            have hgI := (hkp gI _ ⟨_, hgI⟩ (by decide)).trans hgI
            refine wp_append_d (P := Try.prog) 41 _ _ _ _ rfl rfl _ _ rfl rfl happ ?_
            refine hK.out _ _ (fun _ => HC.out _ _ _ _ _ hB3.out) ?_
            clear hK K happ hRB hkp hgN
            simp only [List.setIfInBounds_toArray, List.set_cons_zero, List.set_cons_succ]
            have hC := HC.out _ _ _ _ _ hB3.out
            refine takeX 9 46 (v := ?_) rfl rfl (by kernel_rfl) (by kernel_rfl) (by kernel_rfl) (by kernel_rfl) (by kernel_rfl) (fun _ _ _ _ h => h) hC (by rfl) ?_ ?_
            rotate_left
            · intro w hSw; (try dsimp only at hSw); go_simp; try (with_reducible rfl)
            simp only [List.setIfInBounds_toArray, List.set_cons_zero, List.set_cons_succ]
            clear hC
            refine oneT (i := 8) (by kernel_rfl) rfl (by rfl) (fun K hK => ?_)
            show Oper.wp _ _ _ _ _ _
            obtain ⟨AI, mI, cI, V4, happ, hRB, hkp⟩ := hB3.out.apI hgI (by rw [hLI]; omega)
            have hB4 := Lib.hid hRB
            refine wp_append_d (P := Try.prog) 45 _ _ _ _ rfl rfl _ _ rfl rfl happ ?_
            refine hK.out _ _ (fun _ => HC.out _ _ _ _ _ hB4.out) ?_
            clear hK K happ hRB hkp hgI
            simp only [List.setIfInBounds_toArray, List.set_cons_zero, List.set_cons_succ]
            have h6 := hB4.out.six
            obtain ⟨c0, c1, c2, c3, c4, c5⟩ := h6.cells
            have f0 := h6.free 0
            have hRB1 := Lib.hid (hB4.out.set (.slice AN mN cN) (h6.set0 (.slice AN mN cN)))
            obtain ⟨Y1, hY1⟩ : ∃ Y1, V4.setCell ⟨q, 0, none⟩ (.slice AN mN cN) = Y1 := ⟨_, rfl⟩
            rw [hY1] at hRB1
            refine oneT (i := 10) (by kernel_rfl) rfl (by rfl) (fun K hK => ?_)
            go_simp
            (try rw [hY1])
            refine hK.out _ _ (fun h => absurd h (by decide)) ?_
            clear hK K c0 c1 c2 c3 c4 c5 f0 hY1 h6
            try simp only [Act.put, List.setIfInBounds_toArray, List.set_cons_zero, List.set_cons_succ]
            refine oneT (i := 11) (by kernel_rfl) rfl (by rfl) (fun K hK => ?_)
            go_simp
            refine hK.out _ _ (fun h => absurd h (by decide)) ?_
            clear hK K
            try simp only [Act.put, List.setIfInBounds_toArray, List.set_cons_zero, List.set_cons_succ]
            have h6 := hRB1.out.six
            obtain ⟨c0, c1, c2, c3, c4, c5⟩ := h6.cells
            have f1 := h6.free 1
            have hRB2 := Lib.hid (hRB1.out.set (.slice AI mI cI) (h6.set1 (.slice AI mI cI)))
            obtain ⟨Y2, hY2⟩ : ∃ Y2, Y1.setCell ⟨q, 1, none⟩ (.slice AI mI cI) = Y2 := ⟨_, rfl⟩
            rw [hY2] at hRB2
            refine oneT (i := 12) (by kernel_rfl) rfl (by rfl) (fun K hK => ?_)
            go_simp
            (try rw [hY2])
            refine hK.out _ _ (fun h => absurd h (by decide)) ?_
            clear hK K c0 c1 c2 c3 c4 c5 f1 hY2 h6
            try simp only [Act.put, List.setIfInBounds_toArray, List.set_cons_zero, List.set_cons_succ]
            refine doneT (by kernel_rfl) ?_
            have HN := Lib.hid (HEND.out _ _ _ _ _ _ _ hRB2.out)
            clear hRB1 hRB2 hB4 HC HEND
            go_wp2
            go_roundg (gk - 1)
            case measure => omega
            case rel => exact HN.out
        · go_simp
          obtain ⟨V1, gI, hX, hg, hbn, hgI⟩ : ∃ (X : World) (g : Nat), V0.alloc (.cells #[.int .i64 0] i6T) = X ∧ V0.heap.size = g ∧ Below V0.heap.size V0 X ∧ X.heap[g]? = some (.cells #[.int .i64 0] i6T (0, 0)) := ⟨_, _, rfl, rfl, below_new _ _, heap_alloc_new _ _⟩
          have hB1 := Lib.hid (hB0.out.below hbn)
          (try rw [hX]); (try rw [hg])
          refine hK.out _ _ (fun _ => HC.out _ _ _ _ _ hB1.out) ?_
          clear hK K hbn hX hg
          try simp only [Act.put, List.setIfInBounds_toArray, List.set_cons_zero, List.set_cons_succ]
          refine oneT (i := 3) (by kernel_rfl) rfl (by rfl) (fun K hK => ?_)
          go_simp
          obtain ⟨V2, gN, hX, hg, hbn, hgN⟩ : ∃ (X : World) (g : Nat), V1.alloc (.cells #[.int .i64 rj] rfT) = X ∧ V1.heap.size = g ∧ Below V1.heap.size V1 X ∧ X.heap[g]? = some (.cells #[.int .i64 rj] rfT (0, 0)) := ⟨_, _, rfl, rfl, below_new _ _, heap_alloc_new _ _⟩
          have hB2 := Lib.hid (hB1.out.below hbn)
          have hgI := (hbn.block _ (Array.getElem?_eq_some_iff.1 hgI).1).trans hgI
          (try rw [hX]); (try rw [hg])
          refine hK.out _ _ (fun _ => HC.out _ _ _ _ _ hB2.out) ?_
          clear hK K hbn hX hg
          try simp only [Act.put, List.setIfInBounds_toArray, List.set_cons_zero, List.set_cons_succ]
          refine oneT (i := 4) (by kernel_rfl) rfl (by rfl) (fun K hK => ?_)
          show Oper.wp _ _ _ _ _ _
          obtain ⟨AN, mN, cN, V3, happ, hRB, hkp⟩ := hB2.out.apN hgN (by rw [hLN]; omega)
          have hB3 := Lib.hid hRB
          have hgI := (hkp gI _ ⟨_, hgI⟩ (by decide)).trans hgI
          refine wp_append_d (P := Try.prog) 41 _ _ _ _ rfl rfl _ _ rfl rfl happ ?_
          refine hK.out _ _ (fun _ => HC.out _ _ _ _ _ hB3.out) ?_
          clear hK K happ hRB hkp hgN
          simp only [List.setIfInBounds_toArray, List.set_cons_zero, List.set_cons_succ]
          have hC := HC.out _ _ _ _ _ hB3.out
          refine takeX 9 46 (v := ?_) rfl rfl (by kernel_rfl) (by kernel_rfl) (by kernel_rfl) (by kernel_rfl) (by kernel_rfl) (fun _ _ _ _ h => h) hC (by rfl) ?_ ?_
          rotate_left
          · intro w hSw; (try dsimp only at hSw); go_simp; try (with_reducible rfl)
          simp only [List.setIfInBounds_toArray, List.set_cons_zero, List.set_cons_succ]
          clear hC
          refine oneT (i := 8) (by kernel_rfl) rfl (by rfl) (fun K hK => ?_)
          show Oper.wp _ _ _ _ _ _
          obtain ⟨AI, mI, cI, V4, happ, hRB, hkp⟩ := hB3.out.apI hgI (by rw [hLI]; omega)
          have hB4 := Lib.hid hRB
          refine wp_append_d (P := Try.prog) 45 _ _ _ _ rfl rfl _ _ rfl rfl happ ?_
          refine hK.out _ _ (fun _ => HC.out _ _ _ _ _ hB4.out) ?_
          clear hK K happ hRB hkp hgI
          simp only [List.setIfInBounds_toArray, List.set_cons_zero, List.set_cons_succ]
          have h6 := hB4.out.six
          obtain ⟨c0, c1, c2, c3, c4, c5⟩ := h6.cells
          have f0 := h6.free 0
          have hRB1 := Lib.hid (hB4.out.set (.slice AN mN cN) (h6.set0 (.slice AN mN cN)))
          obtain ⟨Y1, hY1⟩ : ∃ Y1, V4.setCell ⟨q, 0, none⟩ (.slice AN mN cN) = Y1 := ⟨_, rfl⟩
          rw [hY1] at hRB1
          refine oneT (i := 10) (by kernel_rfl) rfl (by rfl) (fun K hK => ?_)
          go_simp
          (try rw [hY1])
          refine hK.out _ _ (fun h => absurd h (by decide)) ?_
          clear hK K c0 c1 c2 c3 c4 c5 f0 hY1 h6
          try simp only [Act.put, List.setIfInBounds_toArray, List.set_cons_zero, List.set_cons_succ]
          refine oneT (i := 11) (by kernel_rfl) rfl (by rfl) (fun K hK => ?_)
          go_simp
          refine hK.out _ _ (fun h => absurd h (by decide)) ?_
          clear hK K
          try simp only [Act.put, List.setIfInBounds_toArray, List.set_cons_zero, List.set_cons_succ]
          have h6 := hRB1.out.six
          obtain ⟨c0, c1, c2, c3, c4, c5⟩ := h6.cells
          have f1 := h6.free 1
          have hRB2 := Lib.hid (hRB1.out.set (.slice AI mI cI) (h6.set1 (.slice AI mI cI)))
          obtain ⟨Y2, hY2⟩ : ∃ Y2, Y1.setCell ⟨q, 1, none⟩ (.slice AI mI cI) = Y2 := ⟨_, rfl⟩
          rw [hY2] at hRB2
          refine oneT (i := 12) (by kernel_rfl) rfl (by rfl) (fun K hK => ?_)
          go_simp
          (try rw [hY2])
          refine hK.out _ _ (fun h => absurd h (by decide)) ?_
          clear hK K c0 c1 c2 c3 c4 c5 f1 hY2 h6
          try simp only [Act.put, List.setIfInBounds_toArray, List.set_cons_zero, List.set_cons_succ]
          refine doneT (by kernel_rfl) ?_
          have HN := Lib.hid (HEND.out _ _ _ _ _ _ _ hRB2.out)
          clear hRB1 hRB2 hB4 HC HEND
          go_wp2
          go_roundg (gk - 1)
          case measure => omega
          case rel => exact HN.out
    have i1 : ¬ ((j : Int) < 5) := by omega
    obtain rfl : j = 5 := by omega
    obtain ⟨A1, mm1, c1, B1, mm2, c2, hRB⟩ := HH.out
    obtain ⟨X0, hX0, bX0⟩ : ∃ X0 : World, wr.drew = X0 ∧ Below wr.heap.size wr X0 := ⟨_, rfl, (Below.refl _ wr).drew⟩
    have hB0 := hRB.below bX0
    obtain ⟨A', c', hv', hsl⟩ := hB0.rN.form
    injection hv' with a5 a2 a4
    subst a5 a4
    obtain ⟨B', e', hv2, hsl2⟩ := hB0.rI.form
    injection hv2 with b5 b2 b4
    subst b5 b4
    have hl5 := lstR_len sa 5
    rw [← a2] at hsl
    rw [← b2] at hsl2
    rw [List.length_map] at a2
    rw [List.length_replicate] at b2
    obtain rfl : mm1 = mm2 := a2.trans b2.symm
    have HM1 : Hid (Calls Try.prog 23 #[ptr d.R, .agg #[.slice A1 mm1 c1, .slice B1 mm1 c2, .int .i64 1, .int .i64 0, .int .i64 (odR sa 5), .int .i64 nw]] X0 fun e w' => e = .returned (.tuple #[.int .i64 ((s.rs.length : Int) + 1), .bool true]) ∧ RB W Y0 (fun b => X b ∨ b = R) q (.slice A1 mm1 c1) (.slice B1 mm1 c2) 1 0 (odR sa 5) nw (.slice A1 mm1 c1) (.slice B1 mm1 c2) ((lstR sa 5).map rfN) (List.replicate (lstR sa 5).length 0) d { s with rs := s.rs ++ [⟨rR sa nw, 1, false⟩] } w') :=
      hB0.nx fun FW hW => nxW_rmake (r := rR sa nw) hW hsl hsl2 (by show (0 : Int) ≤ 1; omega) HRM.out HDM.out (by omega)
    have hC : X0.cell? ⟨d.W, 1, none⟩ = some (ptr d.R) ∧ X0.cell? ⟨q, 0, none⟩ = some (.slice A1 mm1 c1) ∧ X0.cell? ⟨q, 1, none⟩ = some (.slice B1 mm1 c2) ∧ X0.cell? ⟨q, 2, none⟩ = some (.int .i64 1) ∧ X0.cell? ⟨q, 3, none⟩ = some (.int .i64 0) ∧ X0.cell? ⟨q, 4, none⟩ = some (.int .i64 (odR sa 5)) ∧ X0.cell? ⟨q, 5, none⟩ = some (.int .i64 nw) := ⟨hB0.mb.cells.2.1, hB0.six.cells⟩
    have HCX : Hid (∀ u1, RB W Y0 (fun b => X b ∨ b = R) q (.slice A1 mm1 c1) (.slice B1 mm1 c2) 1 0 (odR sa 5) nw (.slice A1 mm1 c1) (.slice B1 mm1 c2) ((lstR sa 5).map rfN) (List.replicate (lstR sa 5).length 0) d { s with rs := s.rs ++ [⟨rR sa nw, 1, false⟩] } u1 → u1.cell? ⟨d.W, 1, none⟩ = some (ptr d.R) ∧ u1.cell? ⟨q, 0, none⟩ = some (.slice A1 mm1 c1) ∧ u1.cell? ⟨q, 1, none⟩ = some (.slice B1 mm1 c2) ∧ u1.cell? ⟨q, 2, none⟩ = some (.int .i64 1) ∧ u1.cell? ⟨q, 3, none⟩ = some (.int .i64 0) ∧ u1.cell? ⟨q, 4, none⟩ = some (.int .i64 (odR sa 5)) ∧ u1.cell? ⟨q, 5, none⟩ = some (.int .i64 nw)) := fun u1 h => ⟨h.mb.cells.2.1, h.six.cells⟩
    have hd1 : d.W < W.heap.size ∨ True := .inr trivial
    clear hd1 HH hRB bX0 hB0 hsl hsl2 a2 b2 hl5 HRN HXW HRM HDM hj
    generalize hNL : (lstR sa 5).map rfN = lN at *
    generalize hIL : List.replicate (lstR sa 5).length (0 : Int) = lI at *
    go_wp2_with fail
    refine region_T (fun _ => false) (fun u1 => u1.cell? ⟨d.W, 1, none⟩ = some (ptr d.R) ∧ u1.cell? ⟨q, 0, none⟩ = some (.slice A1 mm1 c1) ∧ u1.cell? ⟨q, 1, none⟩ = some (.slice B1 mm1 c2) ∧ u1.cell? ⟨q, 2, none⟩ = some (.int .i64 1) ∧ u1.cell? ⟨q, 3, none⟩ = some (.int .i64 0) ∧ u1.cell? ⟨q, 4, none⟩ = some (.int .i64 (odR sa 5)) ∧ u1.cell? ⟨q, 5, none⟩ = some (.int .i64 nw)) (by kernel_rfl) ?_
    rw [hX0]
    clear hX0
    refine takeX 0 50 (v := ?_) rfl rfl (by kernel_rfl) (by kernel_rfl) (by kernel_rfl) (by kernel_rfl) (by kernel_rfl) (fun _ _ _ _ h => h) hC (by rfl) ?_ ?_
    rotate_left
    · intro w hSw; (try dsimp only at hSw); go_simp; try (with_reducible rfl)
    simp only [List.setIfInBounds_toArray, List.set_cons_zero, List.set_cons_succ]
    refine takeX 1 51 (v := ?_) rfl rfl (by kernel_rfl) (by kernel_rfl) (by kernel_rfl) (by kernel_rfl) (by kernel_rfl) (fun _ _ _ _ h => h) hC (by rfl) ?_ ?_
    rotate_left
    · intro w hSw; (try dsimp only at hSw); go_simp; try (with_reducible rfl)
    simp only [List.setIfInBounds_toArray, List.set_cons_zero, List.set_cons_succ]
    refine takeX 2 52 (v := ?_) rfl rfl (by kernel_rfl) (by kernel_rfl) (by kernel_rfl) (by kernel_rfl) (by kernel_rfl) (fun _ _ _ _ h => h) hC (by rfl) ?_ ?_
    rotate_left
    · intro w hSw; (try dsimp only at hSw); go_simp; try (with_reducible rfl)
    simp only [List.setIfInBounds_toArray, List.set_cons_zero, List.set_cons_succ]
    refine takeX 3 53 (v := ?_) rfl rfl (by kernel_rfl) (by kernel_rfl) (by kernel_rfl) (by kernel_rfl) (by kernel_rfl) (fun _ _ _ _ h => h) hC (by rfl) ?_ ?_
    rotate_left
    · intro w hSw; (try dsimp only at hSw); go_simp; try (with_reducible rfl)
    simp only [List.setIfInBounds_toArray, List.set_cons_zero, List.set_cons_succ]
    refine takeX 4 54 (v := ?_) rfl rfl (by kernel_rfl) (by kernel_rfl) (by kernel_rfl) (by kernel_rfl) (by kernel_rfl) (fun _ _ _ _ h => h) hC (by rfl) ?_ ?_
    rotate_left
    · intro w hSw; (try dsimp only at hSw); go_simp; try (with_reducible rfl)
    simp only [List.setIfInBounds_toArray, List.set_cons_zero, List.set_cons_succ]
    refine oneT (i := 5) (by kernel_rfl) rfl (by rfl) (fun K hK => ?_)
    go_simp
    refine HM1.out.mono ?_
    rintro e u1 ⟨rfl, hu1⟩
    have HU := Lib.hid hu1
    have hC2 := HCX.out u1 hu1
    clear hu1 hC
    have hC := hC2
    clear hC2
    refine hK.out _ _ (fun _ => hC) ?_
    clear hK K HM1 HCX
    try simp only [Act.put, List.setIfInBounds_toArray, List.set_cons_zero, List.set_cons_succ]
    refine takeX 6 49 (v := ?_) rfl rfl (by kernel_rfl) (by kernel_rfl) (by kernel_rfl) (by kernel_rfl) (by kernel_rfl) (fun _ _ _ _ h => h) hC (by rfl) ?_ ?_
    rotate_left
    · intro w hSw; (try dsimp only at hSw); go_simp; try (with_reducible rfl)
    simp only [List.setIfInBounds_toArray, List.set_cons_zero, List.set_cons_succ]
    refine takeX 7 56 (v := ?_) rfl rfl (by kernel_rfl) (by kernel_rfl) (by kernel_rfl) (by kernel_rfl) (by kernel_rfl) (fun _ _ _ _ h => h) hC (by rfl) ?_ ?_
    rotate_left
    · intro w hSw; (try dsimp only at hSw); go_simp; try (with_reducible rfl)
    simp only [List.setIfInBounds_toArray, List.set_cons_zero, List.set_cons_succ]
    refine takeX 8 57 (v := ?_) rfl rfl (by kernel_rfl) (by kernel_rfl) (by kernel_rfl) (by kernel_rfl) (by kernel_rfl) (fun _ _ _ _ h => h) hC (by rfl) ?_ ?_
    rotate_left
    · intro w hSw; (try dsimp only at hSw); go_simp; try (with_reducible rfl)
    simp only [List.setIfInBounds_toArray, List.set_cons_zero, List.set_cons_succ]
    refine takeX 9 13 (v := ?_) rfl rfl (by kernel_rfl) (by kernel_rfl) (by kernel_rfl) (by kernel_rfl) (by kernel_rfl) (fun _ _ _ _ h => h) hC (by rfl) ?_ ?_
    rotate_left
    · intro w hSw; (try dsimp only at hSw); go_simp; try (with_reducible rfl)
    simp only [List.setIfInBounds_toArray, List.set_cons_zero, List.set_cons_succ]
    refine takeX 10 14 (v := ?_) rfl rfl (by kernel_rfl) (by kernel_rfl) (by kernel_rfl) (by kernel_rfl) (by kernel_rfl) (fun _ _ _ _ h => h) hC (by rfl) ?_ ?_
    rotate_left
    · intro w hSw; (try dsimp only at hSw); go_simp; try (with_reducible rfl)
    simp only [List.setIfInBounds_toArray, List.set_cons_zero, List.set_cons_succ]
    refine doneT (by kernel_rfl) ?_
    clear hC
    have h6u : Six u1 R (.slice none 0 0) (.slice none 0 0) 0 0 0 0 := (HU.out.kx R (.inr rfl)).2.trans H6R.out
    obtain ⟨x0, x1, x2, x3, x4, x5⟩ := HU.out.six.cells
    obtain ⟨z0, z1, z2, z3, z4, z5⟩ := h6u.cells
    obtain ⟨f0, f1, f2, f3, f4, f5⟩ := h6u.frees
    have HP : Hid (Six (put6 u1 R (.slice A1 mm1 c1) (.slice B1 mm1 c2) 1 0 (odR sa 5) nw) R (.slice A1 mm1 c1) (.slice B1 mm1 c2) 1 0 (odR sa 5) nw) := h6u.put
    have HE := Lib.hid (HU.out.last HRX.out.2.2)
    clear h6u HU H6R
    go_wp2
    ((try simp only [Exit.inBlock, Exit.then]); refine bodyPost_ret (results_rival rfl rfl rfl HP.out) rfl ?_)
    refine ⟨A1, mm1, c1, B1, mm1, c2, rfl, HE.out.1, fun b e => (HE.out.2.1 b e fun e2 => HRX.out.2.1 (e2 ▸ e)).trans (HBX.out b e), ?_, HE.out.2.2.2⟩
    rw [hNL]
    exact HE.out.2.2.1
end Go.Proofs.Ytfloblofdkemlaa
