/-
  Alone, with a bound on its touches; a law's threads in a slice; Mixed.
-/
import Derived.Test.YtfloblofdkemlaaHg9
import Derived.Test.YtfloblofdkemlaaSk9
namespace Go.Proofs.Ytfloblofdkemlaa
open Go.ChangeShapes Go.WideShapes Go.ChangeAt Go.RowKit
set_option linter.unusedVariables false
set_option linter.unusedSimpArgs false
set_option maxRecDepth 20000

section
variable {d : Wd} {R R' FW : Nat → Prop} {n T i : Nat} {hs : Nat → Hp} {os : Nat → Ts} {s s' : Sig} {P : Nat → Nat → Prop} {w w' : World} {L : Nat}
/-- Where Alone is, behind j Steps. -/
structure AN (d : Wd) (R : Nat → Prop) (n T L : Nat) (hs : Nat → Hp) (os : Nat → Ts) (i : Nat) (r0 : Bool × Sig × Nat) (w : World) (j m : Nat) (u : Tr Bool) (s : Sig) (wr : World) : Prop where
  me : ME d R n (T + j) hs (upd os i (.run u)) s wr
  all : all (PR L (hs i)) u s
  e1 : r0.1 = (ev u s).1
  e2 : r0.2.1 = (ev u s).2.1
  e3 : r0.2.2 = j + (ev u s).2.2
  more : j = 0 ∨ 1 ≤ (ev u s).2.2
  kp : Kp R w wr
  m : m = (ev u s).2.2
set_option maxHeartbeats 1000000 in
theorem ME.aloneM {M : Nat} {u : Tr Bool} (h : ME d R n T hs os s w) (hi : i < n) (ho : os i = .run u) (hall : all (PR L (hs i)) u s) (hT : T + M ≤ 390) (hm : (ev u s).2.2 ≤ M) :
    Calls Try.prog 26 #[ptr (hs i).a] w fun e w' => ∃ A q c, e = .returned (.tuple #[.slice A q c, .int .i64 ((max (ev u s).2.2 1 : Nat) : Int), .bool true]) ∧ Row 2 w.heap.size w' (.slice A q c) (hlpOut (ev u s).1) ∧ ME d R n (T + M + 1) hs (upd os i (.fin (ev u s).1)) (ev u s).2.1 w' ∧ Kp R w w' := by
  obtain ⟨r0, hr0⟩ : ∃ r0, ev u s = r0 := ⟨_, rfl⟩
  have HA : Hid (AN d R n T L hs os i r0 w 0 r0.2.2 u s w) := ⟨by rw [show upd os i (.run u) = os from by rw [← ho]; exact upd_same os i]; exact h, hall, by rw [hr0], by rw [hr0], by rw [hr0]; omega, .inl rfl, Kp.refl _ _, by rw [hr0]⟩
  rw [hr0] at hm ⊢
  obtain ⟨m, hm2⟩ : ∃ m, r0.2.2 = m := ⟨_, rfl⟩
  rw [hm2] at HA hm
  have HM := Lib.hid hm2
  have HI := Lib.hid hi
  have HT := Lib.hid hT
  clear h ho hall hm2 hr0 hT hi
  go_enter Try.func26, Try.ntmps26
  go_wp2_with fail
  go_loopg [5] m (fun gk jv wr => ∃ (j : Nat) (u1 : Tr Bool) (s1 : Sig), jv = .int .i64 (j : Int) ∧ Hid (AN d R n T L hs os i r0 w j gk u1 s1 wr))
  case atStart => exact ⟨0, u, s, rfl, HA.out⟩
  case round =>
    clear HA
    obtain ⟨j, u1, s1, rfl, HH⟩ := hrel
    have hjm : j + gk = m := by have h1 := HH.out.e3; have h2 := HH.out.m; have h3 := HM.out; omega
    have i1 : (j : Int) < 3000 := by have := HT.out; omega
    have hkw : IntKind.i64.wrap ((j : Int) + 1) = (j : Int) + 1 := IntWalk.i64_in _ (by omega)
    have HD := Lib.hid (HH.out.me.step HI.out (fun _ => HH.out.all.now) (by have := HT.out; omega))
    rw [upd_at, upd_upd] at HD
    rcases nxT_ev u1 s1 with ⟨v, s', e1, q1, q2, q3⟩ | ⟨u', s', e1, q1, q2, q3, q4⟩
    · rw [e1] at HD
      have HD : Hid (Calls Try.prog 32 #[ptr (hs i).a] wr fun e w' => e = .returned (.bool true) ∧ ME d R n (T + j + 1) hs (upd os i (.fin v)) s' w' ∧ Kp R wr w') := HD.out
      have HE : Hid (∀ (w1 : World), ME d R n (T + j + 1) hs (upd os i (.fin v)) s' w1 → Kp R wr w1 → Calls Try.prog 51 #[ptr (hs i).a] w1 fun e w' => ∃ A q c, e = .returned (.slice A q c) ∧ Hid (∃ A' q' c', Ending.returned (.tuple #[.slice A q c, .int .i64 ((j : Int) + 1), .bool true]) = .returned (.tuple #[.slice A' q' c', .int .i64 ((max r0.2.2 1 : Nat) : Int), .bool true]) ∧ Row 2 w.heap.size w' (.slice A' q' c') (hlpOut r0.1) ∧ ME d R n (T + M + 1) hs (upd os i (.fin r0.1)) r0.2.1 w' ∧ Kp R w w')) := by
        intro w1 h1 h2
        refine (h1.out HI.out (upd_at ..)).mono ?_
        rintro e w' ⟨A, q, c, rfl, r1, r2⟩
        have hle : w.heap.size ≤ w1.heap.size := Nat.le_trans HH.out.kp.size h2.size
        refine ⟨A, q, c, rfl, A, q, c, ?_, ?_, ?_, ?_⟩
        · have hmx : ((max r0.2.2 1 : Nat) : Int) = (j : Int) + 1 := by
            have h1 := HH.out.e3
            rcases HH.out.more with h2 | h2 <;> omega
          rw [hmx]
        · rw [HH.out.e1, q1]; exact r1.lower hle
        · rw [HH.out.e1, q1, HH.out.e2, q2]
          exact (h1.below r2).later (by omega)
        · refine (HH.out.kp.trans h2).trans (Kp.below r2 fun b e => ?_)
          obtain ⟨FW, P, hM⟩ := h1
          exact (hM.rs b e).1
      clear HH q1 q2 q3 e1
      go_wp2_with fail
      refine HD.out.mono ?_
      rintro e w1 ⟨rfl, h1, h2⟩
      have HO := Lib.hid (HE.out w1 h1 h2)
      clear HD HE h1 h2
      go_wp2_with fail
      refine HO.out.mono ?_
      rintro e w' ⟨A, q, c, rfl, hE⟩
      clear HO
      go_wp2
      go_ret3
      exact hE.out
    · rw [e1] at HD
      have HD : Hid (Calls Try.prog 32 #[ptr (hs i).a] wr fun e w' => e = .returned (.bool false) ∧ ME d R n (T + j + 1) hs (upd os i (.run u')) s' w' ∧ Kp R wr w') := HD.out
      have HF : Hid (∀ w1, ME d R n (T + j + 1) hs (upd os i (.run u')) s' w1 → Kp R wr w1 → AN d R n T L hs os i r0 w (j + 1) (gk - 1) u' s' w1) := fun w1 h1 h2 =>
        ⟨h1, nxT_all HH.out.all e1, by rw [HH.out.e1, q1], by rw [HH.out.e2, q2], by rw [HH.out.e3, q3]; omega, .inr q4, HH.out.kp.trans h2, by have := HH.out.m; omega⟩
      have hgk : 1 ≤ gk := by have := HH.out.m; omega
      clear HH q1 q2 q3 q4 e1
      go_wp2_with fail
      refine HD.out.mono ?_
      rintro e w1 ⟨rfl, h1, h2⟩
      have HG := Lib.hid (HF.out w1 h1 h2)
      clear HD HF h1 h2
      go_wp2
      go_roundg (gk - 1)
      case measure => omega
      case rel => exact ⟨j + 1, u', s', by go_num, HG.out⟩
/-- Alone, by what is shared as it begins. -/
theorem ME.aloneM' {M : Nat} {u : Tr Bool} (h : ME d R n T hs os s w) (hi : i < n) (ho : os i = .run u) (hI : Inv L (M + 1) s) (hrc : rcOf s.rs (hs i).n = (hs i).r) (hn : in64 (hs i).n) (hM : 3 * (hs i).r.ns.length + 3 ≤ M) (hT : T + M ≤ 390) :
    Calls Try.prog 26 #[ptr (hs i).a] w fun e w' => ∃ A q c, e = .returned (.tuple #[.slice A q c, .int .i64 ((max (ev u s).2.2 1 : Nat) : Int), .bool true]) ∧ Row 2 w.heap.size w' (.slice A q c) (hlpOut (ev u s).1) ∧ ME d R n (T + M + 1) hs (upd os i (.fin (ev u s).1)) (ev u s).2.1 w' ∧ Kp R w w' := by
  obtain ⟨FW, P, hMS⟩ := h
  have ht := hMS.th i hi
  rw [ho] at ht
  obtain ⟨hg, B1, B2, B3, B4, zs, F, V, k, -, -, -, -, -, -, -, -, -, q1, q2, q3, -⟩ := ht
  have h1 : tame L u := by rw [← q2]; exact tame_res (tame_help _ hn) q1 q3
  have h2 : u.keeps (rcP (hs i).n (hs i).r) := by rw [← q2]; exact keeps_res (rc_help _ _ _ _) q1
  have h3 : short M u := by
    rw [← q2]
    refine short_res (short_mono (short_takes _ _ _) ?_) q1
    rw [List.length_zip]
    have := hg.len
    omega
  have hm := short_ev h3 s
  have ha := all_and (all_mono (fun s h => h.mono (Nat.zero_le _)) (tame_all h1 s 0 (hI.mono (by omega))).1) (keeps_all h2 hrc)
  exact ME.aloneM ⟨FW, P, hMS⟩ hi ho ha hT hm
theorem ME.short (h : ME d R n T hs os s w) (hi : i < n) {u : Tr Bool} (ho : os i = .run u) : Go.Proofs.Ytfloblofdkemlaa.short 100 u := by
  obtain ⟨FW, P, hMS⟩ := h
  have ht := hMS.th i hi
  rw [ho] at ht
  obtain ⟨hg, B1, B2, B3, B4, zs, F, V, k, -, -, -, -, -, -, -, -, -, q1, q2, q3, -⟩ := ht
  rw [← q2]
  exact short_res (short_help _ _ hg) q1
/-- What every Step keeps, Alone keeps. -/
theorem ev_keeps {I : (Nat → Ts) → Sig → Prop} (hI : ∀ os s i, I os s → i < n → I (upd os i (nxT (os i) s).1) (nxT (os i) s).2) {k : Nat} {u : Tr Bool} (hk : Go.Proofs.Ytfloblofdkemlaa.short k u) (hi : i < n) (h : I (upd os i (.run u)) s) : I (upd os i (.fin (ev u s).1)) (ev u s).2.1 := by
  induction k generalizing u s with
  | zero => cases u with
    | ret v => have := hI _ _ i h hi; rw [upd_at, upd_upd] at this; exact this
    | tch g K => exact hk.elim
  | succ k ih => cases u with
    | ret v => have := hI _ _ i h hi; rw [upd_at, upd_upd] at this; exact this
    | tch g K =>
      have h2 := hI _ _ i h hi
      rw [upd_at, upd_upd] at h2
      cases hK : K (g s).1 with
      | ret v =>
        simp only [nxT, hK, ofTr] at h2
        simp only [ev, hK]
        exact h2
      | tch g' K' =>
        simp only [nxT, hK, ofTr] at h2
        have := ih (s := (g s).2) (by have := hk (g s).1; rw [hK] at this; exact this) h2
        show I (upd os i (.fin (ev (K (g s).1) (g s).2).1)) (ev (K (g s).1) (g s).2).2.1
        rw [hK]
        exact this
end
abbrev thP : TypeId := 65
theorem thr_info9 : (Try.prog.info? 65).map (fun i => (i.zero, i.size, i.bytes)) = some (some (.pointer none), 1, 8) := by kernel_rfl
/-- The threads' values. -/
def ptrs (hs : Nat → Hp) (n : Nat) : List Value := (List.range n).map fun i => ptr (hs i).a
theorem ptrs_at {hs : Nat → Hp} {n i : Nat} (h : i < n) : (ptrs hs n)[i]? = some (ptr (hs i).a) := by simp [ptrs, h]
theorem ptrs_snoc (hs : Nat → Hp) (n : Nat) (x : Hp) : ptrs (upd hs n x) (n + 1) = ptrs hs n ++ [ptr x.a] := by
  unfold ptrs
  rw [List.range_succ, List.map_append]
  congr 1
  · exact List.map_congr_left fun i hi => by rw [upd_ne _ _ (by have := List.mem_range.1 hi; omega)]
  · simp [upd_at]
section
variable {w w' : World} {T : Value} {n : Nat} {xs : List Value}
theorem run_pushPt {g : Nat} {u : Value} (hown : w.ownsRow 0 thP 1 T n xs) (hc : w.cell? ⟨g, 0, none⟩ = some u) (hu : u.oneCell' = true) (hn : n ≤ 1000) :
    ∃ A' c' Z, (Builtin.append_ #[76, 76] 76 #[T, .slice (some ⟨g, 0, none⟩) 1 1]).run Try.prog w = .ok (.slice A' (n + 1) c') Z ∧ Z.ownsRow 0 thP 1 (.slice A' (n + 1) c') (n + 1) (xs ++ [u]) ∧ w.grownBy Z T.ownBlock ∧ ∀ b, (Value.slice A' (n + 1) c').ownBlock = some b → T.ownBlock = some b ∨ w.heap.size ≤ b := by
  obtain ⟨i0, hi0, hz0, hz1, hz2⟩ := info_parts thr_info9
  obtain ⟨v', w', h1, h2, h3, h4⟩ := run_push (w := w) 76 76 65 i0 _ 1 8 Try.underlying76 hi0 hz0 hz1 hz2 rfl (by omega) T n xs hown ⟨g, 0, none⟩ 1 1 [u] rfl
    (by
      intro j v hj
      match j with
      | 0 => injection hj with hj; subst hj; rw [add_lit0]; exact hc
      | j + 1 => simp at hj) (fun v hv => (List.mem_singleton.1 hv) ▸ hu) (by unfold maxLen; omega) (by omega)
  have hv : ∃ A' c', v' = .slice A' (n + 1) c' := by
    rcases h2.2 with ⟨rfl, h0⟩ | ⟨g, cap, cur, rfl, _⟩
    · omega
    · exact ⟨_, _, rfl⟩
  obtain ⟨A', c', rfl⟩ := hv
  exact ⟨A', c', w', h1, h2, h3, h4⟩
theorem row_cell {i : Nat} {u : Value} {A : Option Addr} {m c : Nat} (h : w.ownsRow 0 thP 1 (.slice A m c) n xs) (hi : xs[i]? = some u) (hn : i < n) : ∃ g, A = some ⟨g, 0, none⟩ ∧ m = n ∧ w.cell? ⟨g, i, none⟩ = some u := by
  have hr := h
  rcases h.2 with ⟨e, h0⟩ | ⟨g, cap, cur, e, _, hg, h1, h2, _⟩
  · omega
  · injection e with e1 e2 e3
    subst e1 e2 e3
    exact ⟨g, rfl, rfl, by rw [World.ownsRow.cellAt hr i (by omega)]; exact hi⟩
theorem row_len {A : Option Addr} {m c : Nat} (h : w.ownsRow 0 thP 1 (.slice A m c) n xs) : m = n := by
  rcases h.2 with ⟨e, h0⟩ | ⟨g, cap, cur, e, _⟩
  · injection e with _ e _; omega
  · injection e with e1 e2 e3
end
/-- What holds of helpers whatever the order of their touches. -/
structure Inl (L n : Nat) (hs : Nat → Hp) (I : (Nat → Ts) → Sig → Prop) : Prop where
  step : ∀ os s i, I os s → i < n → I (upd os i (nxT (os i) s).1) (nxT (os i) s).2
  pr : ∀ os s i, I os s → i < n → rcOf s.rs (hs i).n = (hs i).r
  inv : ∀ os s, I os s → Inv L 31 s
  n64 : ∀ i, i < n → in64 (hs i).n
  few : ∀ i, i < n → (hs i).r.ns.length ≤ 9
theorem Inl.PR {L n i : Nat} {hs : Nat → Hp} {I : (Nat → Ts) → Sig → Prop} {os : Nat → Ts} {s : Sig} (h : Inl L n hs I) (hI : I os s) (hi : i < n) : Go.Proofs.Ytfloblofdkemlaa.PR L (hs i) s := ⟨(h.inv os s hI).mono (by omega), h.pr os s i hI hi⟩
section
variable {W : World} {X : Nat → Prop} {d : Wd} {n T : Nat} {hs : Nat → Hp} {os : Nat → Ts} {s : Sig} {w : World} {L : Nat} {I : (Nat → Ts) → Sig → Prop}
/-- Where Mixed is. -/
structure MX (W : World) (X : Nat → Prop) (d : Wd) (n T : Nat) (hs : Nat → Hp) (I : (Nat → Ts) → Sig → Prop) (w0 : World) (os : Nat → Ts) (s : Sig) (w : World) : Prop where
  mb : MB W X d n T hs os s w
  i : I os s
  kp : Kp (RX W X) w0 w
def MXE (W : World) (X : Nat → Prop) (d : Wd) (n T : Nat) (hs : Nat → Hp) (I : (Nat → Ts) → Sig → Prop) (w0 w : World) : Prop := ∃ os s, MX W X d n T hs I w0 os s w
/-- Behind Mixed. -/
def MXF (W : World) (X : Nat → Prop) (d : Wd) (n T : Nat) (hs : Nat → Hp) (I : (Nat → Ts) → Sig → Prop) (w0 w : World) (k : Nat) : Prop := ∃ os s, MX W X d n T hs I w0 os s w ∧ ∀ i, i < k → (os i).done = true
theorem MX.stepC {i : Nat} {w0 : World} (h : MX W X d n T hs I w0 os s w) (hin : Inl L n hs I) (hi : i < n) (hT : T ≤ 400) : Calls Try.prog 32 #[ptr (hs i).a] w fun e w' => (∃ b, e = .returned (.bool b)) ∧ MXE W X d n (T + 1) hs I w0 w' := by
  refine (h.mb.me.step hi (fun _ => hin.PR h.i hi) hT).mono ?_
  rintro e w' ⟨rfl, h1, h2⟩
  exact ⟨⟨_, rfl⟩, _, _, h.mb.kp h1 h2, hin.step os s i h.i hi, h.kp.trans h2⟩
/-- Alone of one: it is at its end, the others are where they were. -/
theorem MX.aloneC {i : Nat} {w0 : World} (h : MX W X d n T hs I w0 os s w) (hin : Inl L n hs I) (hi : i < n) (hT : T ≤ 350) : Calls Try.prog 26 #[ptr (hs i).a] w fun e w' => ∃ A q c z, e = .returned (.tuple #[.slice A q c, .int .i64 z, .bool true]) ∧ ∃ os' s', MX W X d n (T + 31) hs I w0 os' s' w' ∧ (os' i).done = true ∧ ∀ j, j ≠ i → os' j = os j := by
  cases ho : os i with
  | fin b =>
    refine (h.mb.me.alone_fin hi ho (by omega)).mono ?_
    rintro e w' ⟨A, q, c, rfl, h1, h2⟩
    exact ⟨A, q, c, 1, rfl, os, s, ⟨h.mb.kp (h1.later (by omega)) h2, h.i, h.kp.trans h2⟩, by rw [ho]; rfl, fun j _ => rfl⟩
  | run u =>
    refine (h.mb.me.aloneM' (M := 30) hi ho (hin.inv os s h.i) (hin.pr os s i h.i hi) (hin.n64 i hi) (by have := hin.few i hi; omega) (by omega)).mono ?_
    rintro e w' ⟨A, q, c, rfl, -, h1, h2⟩
    refine ⟨A, q, c, _, rfl, _, _, ⟨h.mb.kp h1 h2, ?_, h.kp.trans h2⟩, by rw [upd_at]; rfl, fun j e => upd_ne _ _ e⟩
    refine ev_keeps hin.step (h.mb.me.short hi ho) hi ?_
    rw [← ho, upd_same]
    exact h.i
set_option maxHeartbeats 2000000 in
theorem mixed_walk {A B : Option Addr} {m c k e : Nat} {l : List Int} (h : MB W X d n T hs os s w) (hI : I os s) (hin : Inl L n hs I) (hl : w.ownsRow 0 thP 1 (.slice A m c) n (ptrs hs n)) (hX : ∀ b, (Value.slice A m c).ownBlock = some b → X b)
    (ho : Sk .u8 0 255 W B k l) (hk : T + k + 31 * n ≤ 350) (hn : 1 ≤ n) :
    Calls Try.prog 33 #[.slice A m c, .slice B k e] w fun e w' => e = .returned (.bool true) ∧ MXF W X d n (T + k + 31 * n) hs I w w' n := by
  obtain rfl := row_len hl
  have HL : Hid (∀ w', Kp (RX W X) w w' → w'.ownsRow 0 thP 1 (.slice A m c) m (ptrs hs m)) := fun w' hk => own_at hl fun b e => hk.block b (.inr (hX b e))
  have HO := Lib.hid ho
  have HIN := Lib.hid hin
  have HM : Hid (MXE W X d m (T + 0) hs I w w) := ⟨os, s, h, hI, Kp.refl _ _⟩
  have n0 : ¬ (m : Int) = 0 := by omega
  have n0b : ((m : Int) == 0) = false := by simpa using n0
  clear h hI hin hl hX ho
  go_enter Try.func33, Try.ntmps33
  go_wp2_with fail
  go_loopg [17] k (fun gk iv wr => ∃ j : Nat, j + gk = k ∧ iv = .int .i64 (j : Int) ∧ Hid (MXE W X d m (T + j) hs I w wr))
  case atStart => exact ⟨0, by omega, rfl, HM.out⟩
  case round =>
    clear HM
    obtain ⟨j, hj, rfl, HH⟩ := hrel
    by_cases hlt : j < k
    case neg =>
      have i1 : ¬ ((j : Int) < (k : Int)) := by omega
      obtain rfl : j = k := by omega
      have HM : Hid (MXF W X d m (T + j + 31 * 0) hs I w wr 0) := by
        obtain ⟨os, s, h⟩ := HH.out
        exact ⟨os, s, h, fun i hi => absurd hi (by omega)⟩
      clear HH
      go_wp2_with fail
      go_loopg [33] m (fun gk iv wr => ∃ i : Nat, i + gk = m ∧ iv = .int .i64 (i : Int) ∧ Hid (MXF W X d m (T + j + 31 * i) hs I w wr i))
      case atStart => exact ⟨0, by omega, rfl, HM.out⟩
      case round =>
        clear HM
        obtain ⟨i, hi, rfl, HH⟩ := hrel
        by_cases hlt2 : i < m
        case neg =>
          have i2 : ¬ ((i : Int) < (m : Int)) := by omega
          obtain rfl : i = m := by omega
          go_wp2
          go_ret
          exact ⟨rfl, HH.out⟩
        have i2 : (i : Int) < (m : Int) := by omega
        have i0 : (0 : Int) ≤ (i : Int) := by omega
        have hkw : IntKind.i64.wrap ((i : Int) + 1) = (i : Int) + 1 := IntWalk.i64_in _ (by omega)
        obtain ⟨os1, s1, hMX, hdn⟩ := HH.out
        obtain ⟨g, rfl, -, hc⟩ := row_cell (HL.out _ hMX.kp) (ptrs_at hlt2) hlt2
        have HA := Lib.hid (hMX.aloneC HIN.out hlt2 (by omega))
        have HDN := Lib.hid hdn
        clear hMX hdn HH
        go_wp2_with fail
        refine HA.out.mono ?_
        rintro e w1 ⟨A1, q1, c1, z1, rfl, os2, s2, hM2, hd2, hs2⟩
        have HN : Hid (MXF W X d m (T + j + 31 * (i + 1)) hs I w w1 (i + 1)) := ⟨os2, s2, hM2, fun t ht => by
          by_cases e : t = i
          · subst e; exact hd2
          · rw [hs2 t e]; exact HDN.out t (by omega)⟩
        clear HA HDN hM2 hd2 hs2
        go_wp2
        go_roundg (gk - 1)
        case measure => omega
        case rel => exact ⟨i + 1, by omega, by go_num, HN.out⟩
    have i1 : (j : Int) < (k : Int) := by omega
    have i0 : (0 : Int) ≤ (j : Int) := by omega
    have hkw : IntKind.i64.wrap ((j : Int) + 1) = (j : Int) + 1 := IntWalk.i64_in _ (by omega)
    obtain ⟨os1, s1, hMX⟩ := HH.out
    obtain ⟨b, off, z, rfl, hz, z1, z2, hc⟩ := HO.out.in_ hMX.mb.bel hlt
    obtain ⟨zn, rfl⟩ := Int.eq_ofNat_of_zero_le z1
    obtain ⟨i, hi, hiL⟩ : ∃ i : Nat, zn % m = i ∧ i < m := ⟨_, rfl, Nat.mod_lt _ (by omega)⟩
    have a1 : IntKind.i64.wrap (zn : Int) = (zn : Int) := IntWalk.i64_in _ (by omega)
    have d1 : (zn : Int).tmod (m : Int) = (i : Int) := by rw [← hi, Int.tmod_eq_emod_of_nonneg (by omega)]; rfl
    have w2 : IntKind.i64.wrap (i : Int) = (i : Int) := IntWalk.i64_in _ (by omega)
    have j0 : (0 : Int) ≤ (i : Int) := by omega
    have j1 : (i : Int) < (m : Int) := by omega
    obtain ⟨g, rfl, -, hcg⟩ := row_cell (HL.out _ hMX.kp) (ptrs_at hiL) hiL
    have HS := Lib.hid (hMX.stepC HIN.out hiL (by omega))
    clear hMX HH hi hz
    go_wp2_with fail
    refine HS.out.mono ?_
    rintro e w1 ⟨⟨bb, rfl⟩, hM2⟩
    have HN : Hid (MXE W X d m (T + (j + 1)) hs I w w1) := hM2
    clear HS hM2
    go_wp2
    go_roundg (gk - 1)
    case measure => omega
    case rel => exact ⟨j + 1, by omega, by go_num, HN.out⟩
end
end Go.Proofs.Ytfloblofdkemlaa
