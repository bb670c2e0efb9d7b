/-
  What llx's Still and Store come to within work.
-/
import Derived.Test.YtoeilogakfggfaaLu10
namespace Go.Proofs.Ytoeilogakfggfaa
open Go.ChangeShapes Go.WideShapes Go.ChangeAt Go.RowKit
set_option linter.unusedVariables false
set_option linter.unusedSimpArgs false
set_option maxRecDepth 20000

/-- A record is made, if it may be, and there is room for it. -/
def gRMake (M : Nat) (r : Rc) (s : Sig) : Int × Sig := if 0 ≤ r.kp ∧ r.ns.length = r.is.length ∧ s.rs.length < M then ((s.rs.length : Int) + 1, { s with rs := s.rs ++ [⟨r, 1, false⟩] }) else (0, s)
def rcSn (l : List Sn) (kp wy od nw : Int) : Rc := ⟨l.map Sn.rf, l.map Sn.inf, kp, wy, od, nw⟩
def tStill : List Sn → Tr Bool
  | [] => .ret true
  | x :: l => (tDo (gInfo x.rf)).bind fun y => if y = x.inf then tStill l else .ret false
def tStore (M : Nat) (l : List Sn) (kp wy od nw : Int) : Tr (Bool × Bool) := (tDo (gRMake M (rcSn l kp wy od nw))).bind fun n => if n = 0 then .ret (false, true) else (tHelpL n).bind fun b => .ret (b, false)
section
variable {nds : List (Int × Nd)} {M L : Nat} {s : Sig}
theorem kl_still (l : List Sn) : kpL nds M (tStill l) := by
  induction l with
  | nil => exact trivial
  | cons x l ih => exact kpL_bind kl_info fun y => kl_if ih trivial
theorem good_still (l : List Sn) (s : Sig) : good (tStill l) s := by
  induction l generalizing s with
  | nil => exact trivial
  | cons x l ih =>
    refine good_bind (nolk_good (nl_info _) s) fun y s' _ => ?_
    split
    · exact ih _
    · exact trivial
theorem stt_rmake {r : Rc} (h : Stt nds M s) (hl : r.ns.length ≤ 20) (hn : in64 r.nw) : Stt nds M (gRMake M r s).2 := by
  unfold gRMake
  split
  · rename_i hc
    refine ⟨h.nod, fun x hx => ?_, ?_, h.win, h.len, h.cnt⟩
    · rcases List.mem_append.1 hx with hx | hx
      · exact h.rcs x hx
      · obtain rfl : x = ⟨r, 1, false⟩ := by simpa using hx
        exact ⟨⟨hc.1, hc.2.1, hl⟩, hn⟩
    · show (s.rs ++ [_]).length ≤ M
      rw [List.length_append, List.length_singleton]; omega
  · exact h
theorem kl_rmake {r : Rc} (hl : r.ns.length ≤ 20) (hn : in64 r.nw) : kpL nds M (tDo (gRMake M r)) := ⟨fun s h => stt_rmake h hl hn, fun _ => trivial⟩
theorem kl_store {l : List Sn} {kp wy od nw : Int} (hl : l.length ≤ 20) (hn : in64 nw) : kpL nds M (tStore M l kp wy od nw) := kpL_bind (kl_rmake (by simpa [rcSn] using hl) hn) fun n => kl_if trivial (kpL_bind kl_help fun _ => trivial)
theorem rcAt_append (l : List Re) (x : Re) (n : Int) (h : rcAt l n ≠ none) : rcAt (l ++ [x]) n = rcAt l n := by
  unfold rcAt at h ⊢
  split
  · rename_i h1; exact absurd (if_pos h1) h
  · rename_i h1
    rw [if_neg h1] at h
    cases hl : l[(n - 1).toNat]? with
    | none => simp only [hl] at h; exact absurd rfl h
    | some y => rw [List.getElem?_append_left (List.getElem?_eq_some_iff.1 hl).1, hl]
theorem le_rmake (M : Nat) (r : Rc) (s : Sig) : Le s (gRMake M r s).2 := by
  unfold gRMake
  split
  · intro n h
    have e := rcAt_append s.rs ⟨r, 1, false⟩ n h
    refine ⟨?_, ?_⟩
    · unfold has at h ⊢
      show rcAt (s.rs ++ [_]) n ≠ none
      rw [e]; exact h
    · show rcOf (s.rs ++ [_]) n = rcOf s.rs n
      unfold rcOf
      rw [e]
  · exact Le.refl s
theorem has_rmake {M : Nat} {r : Rc} {s : Sig} (h : (gRMake M r s).1 ≠ 0) : has (gRMake M r s).2 (gRMake M r s).1 ∧ rcOf (gRMake M r s).2.rs (gRMake M r s).1 = r := by
  unfold gRMake at h ⊢
  split
  · have e : rcAt (s.rs ++ [⟨r, 1, false⟩]) ((s.rs.length : Int) + 1) = some (s.rs.length, ⟨r, 1, false⟩) := by
      unfold rcAt
      rw [if_neg (by omega), show ((s.rs.length : Int) + 1 - 1).toNat = s.rs.length from by omega, List.getElem?_append_right (Nat.le_refl _), Nat.sub_self]
      rfl
    refine ⟨?_, ?_⟩
    · unfold has
      show rcAt (s.rs ++ [_]) _ ≠ none
      rw [e]; simp
    · unfold rcOf
      show (match rcAt (s.rs ++ [_]) ((s.rs.length : Int) + 1) with | some (_, x) => x.rc | none => Rc.nil) = _
      rw [e]
  · rename_i hc; rw [if_neg hc] at h; exact absurd rfl h
theorem good_store (M : Nat) (l : List Sn) (kp wy od nw : Int) (s : Sig) : good (tStore M l kp wy od nw) s := by
  intro s' hl
  refine ⟨le_rmake _ _ _, ?_⟩
  show good (if (gRMake M (rcSn l kp wy od nw) s').1 = 0 then _ else _) _
  split
  · exact trivial
  · rename_i h
    exact ⟨(has_rmake h).1, good_bind (nolk_good (nl_help _ _) _) fun _ _ _ => trivial⟩
theorem rmake_in {M : Nat} (hM : M ≤ 1000) (r : Rc) (s : Sig) : in64 (gRMake M r s).1 := by
  unfold gRMake
  split
  · unfold in64; simp only; omega
  · unfold in64; simp only; omega
end
section
variable {d : Wd} {FW R : Nat → Prop} {w w' : World} {s : Sig} {B C a me i M : Nat}
theorem nxW_rmakeG {A B' : Option Addr} {m c e : Nat} {r : Rc} (h : WS d FW w s) (hr : Sl w A m c r.ns) (hk : Sl w B' m e r.is) (hM : d.m = M) (hmo : M ≤ 65536) (hn : m ≤ 20) :
    Calls Try.prog 8 #[ptr d.R, rcv (.slice A m c) (.slice B' m e) r] w fun e w' => (∃ b, e = .returned (.tuple #[.int .i64 (gRMake M r s).1, .bool b])) ∧ NxW d FW w (gRMake M r s).2 w' := by
  have e1 : r.ns.length = r.is.length := by rw [← hr.len, ← hk.len]
  obtain ⟨FT, ⟨l, P, h1, h2⟩, -, h3⟩ := h.rc
  by_cases hc : 0 ≤ r.kp ∧ s.rs.length < M
  · have e2 : gRMake M r s = ((s.rs.length : Int) + 1, { s with rs := s.rs ++ [⟨r, 1, false⟩] }) := by unfold gRMake; rw [if_pos ⟨hc.1, e1, hc.2⟩]
    rw [e2]
    refine (nxW_rmake h hr hk hc.1 (by rw [hM]; exact hc.2) (by rw [hM]; exact hmo) hn).mono ?_
    rintro e w' ⟨rfl, hw⟩
    exact ⟨⟨true, rfl⟩, hw⟩
  · have e2 : gRMake M r s = (0, s) := by unfold gRMake; rw [if_neg (fun x => hc ⟨x.1, x.2.2⟩)]
    rw [e2]
    refine (recMake_no h1 A B' m c m e r ?_).mono ?_
    · rw [len_it h2, hM]
      by_cases h0 : r.kp < 0
      · exact .inr (.inl h0)
      · exact .inr (.inr (by by_cases h9 : s.rs.length < M; exact absurd ⟨by omega, h9⟩ hc; omega))
    · rintro e w' ⟨rfl, hb⟩
      exact ⟨⟨false, rfl⟩, NxW.of_below h hb⟩
set_option maxHeartbeats 2000000 in
theorem lstore1_walk {A B' : Option Addr} {m c0 c1 : Nat} {ns is : List Int} {kp wy od nw : Int} (h : WS d FW w s) (hB : Tk w B a d.W me) (h6 : Six w C (.slice A m c0) (.slice B' m c1) kp wy od nw) (hr : Sl w A m c0 ns) (hk : Sl w B' m c1 is) (hM : d.m = M) (hmo : M ≤ 65536) (hn : m ≤ 20) :
    Calls Try.prog 44 #[ptr B, ptr C] w fun e w' => e = .returned (intV (gRMake M ⟨ns, is, kp, wy, od, nw⟩ s).1) ∧ NxW d FW w (gRMake M ⟨ns, is, kp, wy, od, nw⟩ s).2 w' := by
  have h0 := hB.c1
  have h2 := h.cells.2.1
  have HS := Lib.hid (nxW_rmakeG (r := ⟨ns, is, kp, wy, od, nw⟩) (drew_W h) (hr.below ((Below.refl _ w).drew)) (hk.below ((Below.refl _ w).drew)) hM hmo hn)
  obtain ⟨x0, x1, x2, x3, x4, x5⟩ := h6.cells
  have hC0 : w.drew.cell? ⟨B, 1, none⟩ = some (ptr d.W) ∧ w.drew.cell? ⟨d.W, 1, none⟩ = some (ptr d.R) ∧ w.drew.cell? ⟨C, 0, none⟩ = some (.slice A m c0) ∧ w.drew.cell? ⟨C, 1, none⟩ = some (.slice B' m c1) ∧ w.drew.cell? ⟨C, 2, none⟩ = some (.int .i64 kp) ∧ w.drew.cell? ⟨C, 3, none⟩ = some (.int .i64 wy) ∧ w.drew.cell? ⟨C, 4, none⟩ = some (.int .i64 od) ∧ w.drew.cell? ⟨C, 5, none⟩ = some (.int .i64 nw) := ⟨h0, h2, x0, x1, x2, x3, x4, x5⟩
  clear hB h h0 h2 h6 hr hk x0 x1 x2 x3 x4 x5
  go_enter Try.func44, Try.ntmps44
  go_wp2_with fail
  refine region_T (fun k => Nat.ble 6 k) (fun w' => w'.cell? ⟨B, 1, none⟩ = some (ptr d.W) ∧ w'.cell? ⟨d.W, 1, none⟩ = some (ptr d.R) ∧ w'.cell? ⟨C, 0, none⟩ = some (.slice A m c0) ∧ w'.cell? ⟨C, 1, none⟩ = some (.slice B' m c1) ∧ w'.cell? ⟨C, 2, none⟩ = some (.int .i64 kp) ∧ w'.cell? ⟨C, 3, none⟩ = some (.int .i64 wy) ∧ w'.cell? ⟨C, 4, none⟩ = some (.int .i64 od) ∧ w'.cell? ⟨C, 5, none⟩ = some (.int .i64 nw)) (by kernel_rfl) ?_
  have hC := hC0
  refine takeX 0 6 (v := ?_) rfl rfl (by kernel_rfl) (by kernel_rfl) (by kernel_rfl) (by kernel_rfl) (by kernel_rfl) (fun _ _ _ _ h => h) hC (by rfl) ?_ ?_
  rotate_left
  · intro w hSw; (try dsimp only at hSw); go_simp; try (with_reducible rfl)
  simp only [List.setIfInBounds_toArray, List.set_cons_zero, List.set_cons_succ]
  refine takeX 1 7 (v := ?_) rfl rfl (by kernel_rfl) (by kernel_rfl) (by kernel_rfl) (by kernel_rfl) (by kernel_rfl) (fun _ _ _ _ h => h) hC (by rfl) ?_ ?_
  rotate_left
  · intro w hSw; (try dsimp only at hSw); go_simp; try (with_reducible rfl)
  simp only [List.setIfInBounds_toArray, List.set_cons_zero, List.set_cons_succ]
  refine takeX 2 8 (v := ?_) rfl rfl (by kernel_rfl) (by kernel_rfl) (by kernel_rfl) (by kernel_rfl) (by kernel_rfl) (fun _ _ _ _ h => h) hC (by rfl) ?_ ?_
  rotate_left
  · intro w hSw; (try dsimp only at hSw); go_simp; try (with_reducible rfl)
  simp only [List.setIfInBounds_toArray, List.set_cons_zero, List.set_cons_succ]
  refine takeX 3 9 (v := ?_) rfl rfl (by kernel_rfl) (by kernel_rfl) (by kernel_rfl) (by kernel_rfl) (by kernel_rfl) (fun _ _ _ _ h => h) hC (by rfl) ?_ ?_
  rotate_left
  · intro w hSw; (try dsimp only at hSw); go_simp; try (with_reducible rfl)
  simp only [List.setIfInBounds_toArray, List.set_cons_zero, List.set_cons_succ]
  refine takeX 4 10 (v := ?_) rfl rfl (by kernel_rfl) (by kernel_rfl) (by kernel_rfl) (by kernel_rfl) (by kernel_rfl) (fun _ _ _ _ h => h) hC (by rfl) ?_ ?_
  rotate_left
  · intro w hSw; (try dsimp only at hSw); go_simp; try (with_reducible rfl)
  simp only [List.setIfInBounds_toArray, List.set_cons_zero, List.set_cons_succ]
  refine takeX 5 11 (v := ?_) rfl rfl (by kernel_rfl) (by kernel_rfl) (by kernel_rfl) (by kernel_rfl) (by kernel_rfl) (fun _ _ _ _ h => h) hC (by rfl) ?_ ?_
  rotate_left
  · intro w hSw; (try dsimp only at hSw); go_simp; try (with_reducible rfl)
  simp only [List.setIfInBounds_toArray, List.set_cons_zero, List.set_cons_succ]
  refine oneT (i := 6) (by kernel_rfl) rfl (by rfl) (fun K hK => ?_)
  go_simp
  refine HS.out.mono ?_
  rintro e w' ⟨⟨b, rfl⟩, hn⟩
  refine hK.out _ _ (fun h => absurd h (by decide)) ?_
  clear hK K hC hC0 HS
  have HN := Lib.hid (gone_drew hn)
  clear hn
  try simp only [Act.put, List.setIfInBounds_toArray, List.set_cons_zero, List.set_cons_succ]
  refine oneT (i := 7) (by kernel_rfl) rfl (by rfl) (fun K hK => ?_)
  go_simp
  refine hK.out _ _ (fun h => absurd h (by decide)) ?_
  clear hK K
  try simp only [Act.put, List.setIfInBounds_toArray, List.set_cons_zero, List.set_cons_succ]
  refine twoT (i := 8) (j := 9) (by kernel_rfl) rfl rfl (by rfl) (by rfl) (fun K hK => ?_) (fun K hK => ?_)
  · go_simp
    refine hK.out _ _ (fun h => absurd h (by decide)) ?_
    clear hK K
    try simp only [Act.put, List.setIfInBounds_toArray, List.set_cons_zero, List.set_cons_succ]
    refine twoT (i := 9) (j := 10) (by kernel_rfl) rfl rfl (by rfl) (by rfl) (fun K hK => ?_) (fun K hK => ?_)
    · go_simp
      refine hK.out _ _ (fun h => absurd h (by decide)) ?_
      clear hK K
      try simp only [Act.put, List.setIfInBounds_toArray, List.set_cons_zero, List.set_cons_succ]
      refine oneT (i := 10) (by kernel_rfl) rfl (by rfl) (fun K hK => ?_)
      go_simp
      refine hK.out _ _ (fun h => absurd h (by decide)) ?_
      clear hK K
      try simp only [Act.put, List.setIfInBounds_toArray, List.set_cons_zero, List.set_cons_succ]
      refine oneT (i := 11) (by kernel_rfl) rfl (by rfl) (fun K hK => ?_)
      go_simp
      refine hK.out _ _ (fun h => absurd h (by decide)) ?_
      clear hK K
      try simp only [Act.put, List.setIfInBounds_toArray, List.set_cons_zero, List.set_cons_succ]
      refine doneT (by kernel_rfl) ?_
      go_wp2
      go_ret
      exact ⟨rfl, HN.out⟩
    · go_simp
      refine hK.out _ _ (fun h => absurd h (by decide)) ?_
      clear hK K
      try simp only [Act.put, List.setIfInBounds_toArray, List.set_cons_zero, List.set_cons_succ]
      refine oneT (i := 9) (by kernel_rfl) rfl (by rfl) (fun K hK => ?_)
      go_simp
      refine hK.out _ _ (fun h => absurd h (by decide)) ?_
      clear hK K
      try simp only [Act.put, List.setIfInBounds_toArray, List.set_cons_zero, List.set_cons_succ]
      refine oneT (i := 11) (by kernel_rfl) rfl (by rfl) (fun K hK => ?_)
      go_simp
      refine hK.out _ _ (fun h => absurd h (by decide)) ?_
      clear hK K
      try simp only [Act.put, List.setIfInBounds_toArray, List.set_cons_zero, List.set_cons_succ]
      refine doneT (by kernel_rfl) ?_
      go_wp2
      go_ret
      exact ⟨rfl, HN.out⟩
  · go_simp
    refine hK.out _ _ (fun h => absurd h (by decide)) ?_
    clear hK K
    try simp only [Act.put, List.setIfInBounds_toArray, List.set_cons_zero, List.set_cons_succ]
    refine oneT (i := 8) (by kernel_rfl) rfl (by rfl) (fun K hK => ?_)
    go_simp
    refine hK.out _ _ (fun h => absurd h (by decide)) ?_
    clear hK K
    try simp only [Act.put, List.setIfInBounds_toArray, List.set_cons_zero, List.set_cons_succ]
    refine oneT (i := 10) (by kernel_rfl) rfl (by rfl) (fun K hK => ?_)
    go_simp
    refine hK.out _ _ (fun h => absurd h (by decide)) ?_
    clear hK K
    try simp only [Act.put, List.setIfInBounds_toArray, List.set_cons_zero, List.set_cons_succ]
    refine oneT (i := 11) (by kernel_rfl) rfl (by rfl) (fun K hK => ?_)
    go_simp
    refine hK.out _ _ (fun h => absurd h (by decide)) ?_
    clear hK K
    try simp only [Act.put, List.setIfInBounds_toArray, List.set_cons_zero, List.set_cons_succ]
    refine doneT (by kernel_rfl) ?_
    go_wp2
    go_ret
    exact ⟨rfl, HN.out⟩
end
section
variable {nds : List (Int × Nd)} {M : Nat} {d : Wd} {R R' X X' : Nat → Prop} {w w' w0 wr w1 : World} {a st ph k me p q : Nat} {wk T : Value} {zs ws : List Int} {c : Cur} {s : Sig} {n r : Int} {nd : Nd} {e : Ending} {l : List Sn} {Y : Nat → Prop}
set_option maxHeartbeats 4000000 in
theorem still_touch {A : Option Addr} {m c0 : Nat} (hs : SnL l Y w (.slice A m c0)) (hY : ∀ b, Y b → R b) (hl : l.length ≤ 100) (h : Lv d R w a wk c s) (hP : Stt nds M s) :
    Calls Try.prog 25 #[tkV a d.W me, .slice A m c0] w (Post d R w a wk bV (run (tStill l) c s)) := by
  have HR := Lib.hid h.lt
  obtain ⟨W, p, hW, hp, bb, tk, hsz⟩ := one_box w a d.W me
  obtain ⟨o, ho⟩ : ∃ o, run (tStill l) c s = o := ⟨_, rfl⟩
  rw [ho]
  have HB : Hid (BT (Stt nds M) d R (fun b => R b ∨ b = p) w a me wk p o (tStill l) W c s) := by
    show BT _ _ _ _ _ _ _ _ _ _ _ _ _ _
    rw [← ho]
    exact BT.begin_ h bb (fun b e => e.imp id fun e => by omega) (fun b e => e) tk hP
  have HN := Lib.hid (isNone_walk a d.W me W)
  have HPP := Lib.hid hp
  have hml : m = l.length := by
    obtain ⟨A', c', e, _⟩ := hs.shape
    injection e with _ e _
  have HSN : Hid (∀ wr, Kp R w wr → SnL l Y wr (.slice A m c0)) := fun wr hk => hs.keep (fun b e => hk.block b (hY b e)) fun b e => e
  obtain ⟨t0, t1, t2⟩ := tk
  clear h bb hsz hP ho hs hY
  go_enter Try.func25, Try.ntmps25
  go_wp2_with fail
  (try rw [hW])
  refine HN.out.mono ?_
  rintro e w1 ⟨rfl, b1⟩
  have HB1 : Hid (BT (Stt nds M) d R (fun b => R b ∨ b = p) w a me wk p o (tStill (l.drop 0)) w1 c s) := HB.out.below b1
  have HML := Lib.hid hml
  clear HN HB b1 t0 t1 t2 hW hp
  go_wp2_with fail
  go_loopg [11] m (fun gk iv wr => ∃ (j : Nat) (c' : Cur) (s' : Sig), j + gk = m ∧ iv = .int .i64 (j : Int) ∧ Hid (BT (Stt nds M) d R (fun b => R b ∨ b = p) w a me wk p o (tStill (l.drop j)) wr c' s'))
  case atStart => exact ⟨0, c, s, by omega, rfl, HB1.out⟩
  case round =>
    clear HB1
    obtain ⟨j, c2, s2, hj, rfl, HH⟩ := hrel
    by_cases hlt : j < m
    case neg =>
      have i1 : ¬ ((j : Int) < (m : Int)) := by omega
      have HE : Hid (Post d R w a wk bV o (.returned (.bool true)) wr) := by
        have h := HH.out
        rw [List.drop_eq_nil_of_le (by have := HML.out; omega)] at h
        exact BT.post (V := bV) h
      clear HH
      go_wp2
      go_ret
      exact HE.out
    have i1 : (j : Int) < (m : Int) := by omega
    have i0 : (0 : Int) ≤ (j : Int) := by omega
    have hkw : IntKind.i64.wrap ((j : Int) + 1) = (j : Int) + 1 := IntWalk.i64_in _ (by omega)
    have hjl : j < l.length := by omega
    obtain ⟨x, hxe⟩ : ∃ x, l[j] = x := ⟨_, rfl⟩
    have hdr : l.drop j = x :: l.drop (j + 1) := by rw [List.drop_eq_getElem_cons hjl, hxe]
    obtain ⟨g, pv, kv, zv, wv, hAe, hnl, hYg, ⟨P1, n1, q1, rfl⟩, ⟨P2, n2, q2, rfl⟩, ⟨P3, n3, q3, rfl⟩, k4, k5, y0, y1, y2, y3, y4, y5, y6, y7⟩ := (HSN.out wr HH.out.kp).at_ (i := j) (x := x) (by rw [List.getElem?_eq_getElem hjl, hxe])
    obtain ⟨A4, n4, q4, rfl⟩ := k4.shape
    subst hAe
    have HB2 : Hid (BT (Stt nds M) d R (fun b => R b ∨ b = p) w a me wk p o ((tDo (gInfo x.rf)).bind fun y => if y = x.inf then tStill (l.drop (j + 1)) else .ret false) wr c2 s2) := by
      have h := HH.out
      rw [hdr] at h
      exact h
    obtain ⟨Z, q, hZ, hq, e2, bZ, sZ⟩ : ∃ (Z : World) (q : Nat), wr.alloc (.cells #[.int .i64 0, .int .i64 0, .bool false, .bool false, .slice none 0 0, .slice none 0 0, .slice none 0 0, .slice none 0 0] snT) = Z ∧ wr.heap.size = q ∧ Eig Z q 0 0 false false (.slice none 0 0) (.slice none 0 0) (.slice none 0 0) (.slice none 0 0) ∧ Below wr.heap.size wr Z ∧ Z.heap.size = q + 1 := ⟨_, _, rfl, rfl, Eig.new _ rfl _ _ _ _ _ _ _ _, below_new _ _, by simp⟩
    have hO := only_put8 Z q x.rf x.inf x.nd.inn x.nd.tag (.slice P1 n1 q1) (.slice P2 n2 q2) (.slice P3 n3 q3) (.slice A4 n4 q4)
    have b8 : Below wr.heap.size Z (put8 Z q x.rf x.inf x.nd.inn x.nd.tag (.slice P1 n1 q1) (.slice P2 n2 q2) (.slice P3 n3 q3) (.slice A4 n4 q4)) := hO.below (fun b e => by omega) (by omega)
    have e3 : Eig (put8 Z q x.rf x.inf x.nd.inn x.nd.tag (.slice P1 n1 q1) (.slice P2 n2 q2) (.slice P3 n3 q3) (.slice A4 n4 q4)) q x.rf x.inf x.nd.inn x.nd.tag (.slice P1 n1 q1) (.slice P2 n2 q2) (.slice P3 n3 q3) (.slice A4 n4 q4) := e2.put
    obtain ⟨V, hV⟩ : ∃ V, put8 Z q x.rf x.inf x.nd.inn x.nd.tag (.slice P1 n1 q1) (.slice P2 n2 q2) (.slice P3 n3 q3) (.slice A4 n4 q4) = V := ⟨_, rfl⟩
    rw [hV] at b8 e3
    have bV : Below wr.heap.size wr V := bZ.trans b8
    have hpl : p < wr.heap.size := HB2.out.lv.lt p (.inr rfl)
    have HB3 : Hid (BT (Stt nds M) d R (fun b => (R b ∨ b = p) ∨ b = q) w a me wk p o ((tDo (gInfo x.rf)).bind fun y => if y = x.inf then tStill (l.drop (j + 1)) else .ret false) V c2 s2) :=
      HB2.out.more bV (fun b e => e.imp id fun e => ⟨by omega, by have := e3.lt; omega⟩) fun b e => .inl e
    have E3 := Lib.hid e3
    obtain ⟨x0, x1, x2, x3, x4, x5, x6, x7⟩ := e2.cells
    obtain ⟨f0, f1, f2, f3, f4, f5, f6, f7⟩ := e2.frees
    clear HH HB2 hdr hxe hO b8 e2 e3 bZ bV k4 k5 hYg sZ
    go_upto_region 6 with fail
    (try rw [hZ]); (try rw [hq]); (try rw [hV])
    clear x0 x1 x2 x3 x4 x5 x6 x7 f0 f1 f2 f3 f4 f5 f6 f7 hZ hq hV y0 y1 y2 y3 y4 y5 y6 y7
    refine region_T (fun _ => false) (fun w' => w'.cell? ⟨p, 0, none⟩ = some (ptr a) ∧ w'.cell? ⟨p, 1, none⟩ = some (ptr d.W) ∧ w'.cell? ⟨p, 2, none⟩ = some (.int .i64 (me : Int)) ∧ w'.cell? ⟨q, 0, none⟩ = some (.int .i64 x.rf) ∧ w'.cell? ⟨q, 1, none⟩ = some (.int .i64 x.inf)) (by kernel_rfl) ?_
    obtain ⟨X0, hX0, hbX0⟩ : ∃ X0 : World, V.drew = X0 ∧ Below V.heap.size V X0 := ⟨_, rfl, (Below.refl _ V).drew⟩
    have HB4 := Lib.hid (HB3.out.below hbX0)
    have E4 := Lib.hid (E3.out.below hbX0)
    rw [hX0]
    clear hX0 HB3 E3 hbX0
    have hC : X0.cell? ⟨p, 0, none⟩ = some (ptr a) ∧ X0.cell? ⟨p, 1, none⟩ = some (ptr d.W) ∧ X0.cell? ⟨p, 2, none⟩ = some (.int .i64 (me : Int)) ∧ X0.cell? ⟨q, 0, none⟩ = some (.int .i64 x.rf) ∧ X0.cell? ⟨q, 1, none⟩ = some (.int .i64 x.inf) := ⟨HB4.out.tk.c0, HB4.out.tk.c1, HB4.out.tk.c2, E4.out.cells.1, E4.out.cells.2.1⟩
    refine takeX 0 15 (v := ?_) rfl rfl (by kernel_rfl) (by kernel_rfl) (by kernel_rfl) (by kernel_rfl) (by kernel_rfl) (fun _ _ _ _ h => h) hC (by rfl) ?_ ?_
    rotate_left
    · intro w hSw; (try dsimp only at hSw); go_simp; try (with_reducible rfl)
    simp only [List.setIfInBounds_toArray, List.set_cons_zero, List.set_cons_succ]
    refine takeX 1 16 (v := ?_) rfl rfl (by kernel_rfl) (by kernel_rfl) (by kernel_rfl) (by kernel_rfl) (by kernel_rfl) (fun _ _ _ _ h => h) hC (by rfl) ?_ ?_
    rotate_left
    · intro w hSw; (try dsimp only at hSw); go_simp; try (with_reducible rfl)
    simp only [List.setIfInBounds_toArray, List.set_cons_zero, List.set_cons_succ]
    refine takeX 2 17 (v := ?_) rfl rfl (by kernel_rfl) (by kernel_rfl) (by kernel_rfl) (by kernel_rfl) (by kernel_rfl) (fun _ _ _ _ h => h) hC (by rfl) ?_ ?_
    rotate_left
    · intro w hSw; (try dsimp only at hSw); go_simp; try (with_reducible rfl)
    simp only [List.setIfInBounds_toArray, List.set_cons_zero, List.set_cons_succ]
    refine takeX 4 19 (v := ?_) rfl rfl (by kernel_rfl) (by kernel_rfl) (by kernel_rfl) (by kernel_rfl) (by kernel_rfl) (fun _ _ _ _ h => h) hC (by rfl) ?_ ?_
    rotate_left
    · intro w hSw; (try dsimp only at hSw); go_simp; try (with_reducible rfl)
    simp only [List.setIfInBounds_toArray, List.set_cons_zero, List.set_cons_succ]
    refine takeX 5 20 (v := ?_) rfl rfl (by kernel_rfl) (by kernel_rfl) (by kernel_rfl) (by kernel_rfl) (by kernel_rfl) (fun _ _ _ _ h => h) hC (by rfl) ?_ ?_
    rotate_left
    · intro w hSw; (try dsimp only at hSw); go_simp; try (with_reducible rfl)
    simp only [List.setIfInBounds_toArray, List.set_cons_zero, List.set_cons_succ]
    refine oneT (i := 3) (by kernel_rfl) rfl (by rfl) (fun K hK => ?_)
    go_simp
    refine (linfo_touch (me := me) (r := x.rf) HB4.out.lv).mono ?_
    intro e w2 hP
    rcases BT.call (K := fun y => (if y = x.inf then tStill (l.drop (j + 1)) else .ret false : Tr Bool)) HB4.out (run_kpL kl_info) hP with ⟨y, c3, s3, rfl, -, hB, hKp⟩ | hx
    case inr => obtain ⟨rfl, hx⟩ := hx; exact ⟨rfl, Wts.post ⟨rfl, hx⟩⟩
    have HB5 := Lib.hid hB
    have hE5 := E4.out.at_ (hKp.block _ (.inr rfl))
    have hC2 : w2.cell? ⟨p, 0, none⟩ = some (ptr a) ∧ w2.cell? ⟨p, 1, none⟩ = some (ptr d.W) ∧ w2.cell? ⟨p, 2, none⟩ = some (.int .i64 (me : Int)) ∧ w2.cell? ⟨q, 0, none⟩ = some (.int .i64 x.rf) ∧ w2.cell? ⟨q, 1, none⟩ = some (.int .i64 x.inf) := ⟨hB.tk.c0, hB.tk.c1, hB.tk.c2, hE5.cells.1, hE5.cells.2.1⟩
    refine hK.out _ _ (fun _ => hC2) ?_
    clear hK K hC hB hKp hP HB4 E4 hE5
    try simp only [Act.put, List.setIfInBounds_toArray, List.set_cons_zero, List.set_cons_succ]
    refine oneT (i := 6) (by kernel_rfl) rfl (by rfl) (fun K hK => ?_)
    go_simp
    refine hK.out _ _ (fun _ => hC2) ?_
    clear hK K hC2
    try simp only [Act.put, List.setIfInBounds_toArray, List.set_cons_zero, List.set_cons_succ]
    refine doneT (by kernel_rfl) ?_
    by_cases hy : y = x.inf
    · have HB6 : Hid (BT (Stt nds M) d R (fun b => R b ∨ b = p) w a me wk p o (tStill (l.drop (j + 1))) w2 c3 s3) := by
        have h := HB5.out
        simp only [if_pos hy] at h
        exact h.mono (fun b e => .inl e) fun b e => e
      clear HB5
      subst hy
      go_wp2
      go_roundg (gk - 1)
      case measure => omega
      case rel => exact ⟨j + 1, c3, s3, by omega, by go_num, HB6.out⟩
    · have HE : Hid (Post d R w a wk bV o (.returned (.bool false)) w2) := by
        have h := HB5.out
        simp only [if_neg hy] at h
        exact BT.post (V := bV) h
      clear HB5
      go_wp2
      go_ret
      exact HE.out
end
end Go.Proofs.Ytoeilogakfggfaa
