/-
  The law WorldMakes' first work: nodes made one behind the other.
-/
import Derived.Test.YtmnbdhngadjmiaaLv8
namespace Go.Proofs.Ytmnbdhngadjmiaa
open Go.ChangeShapes Go.WideShapes Go.ChangeAt Go.RowKit
set_option linter.unusedVariables false
set_option linter.unusedSimpArgs false
set_option maxRecDepth 20000

def odd (i : Nat) : Bool := decide (i % 2 = 1)
def tMks : Nat → Nat → List Int → Tr (List Int)
  | 0, _, acc => .ret acc
  | r + 1, i, acc => .tch (gMake (tagNd (odd i))) fun z => tMks r (i + 1) (acc ++ [z])
theorem tame_tMks (L r i : Nat) (acc : List Int) : tame L (tMks r i acc) := by
  induction r generalizing i acc with
  | zero => exact trivial
  | succ r ih => exact ⟨fun B s h => ⟨inv_make h, make_in⟩, fun z _ => ih _ _⟩
section
variable {d : Wd} {R R' X : Nat → Prop} {w w' w0 wr w1 : World} {a st ph k me L p : Nat} {wk : Value} {zs acc : List Int} {c : Cur} {s : Sig} {n : Int} {T : Value} {o : Out (List Int)}
theorem Lv0.own (h : Lv0 d R w a wk zs st ph k s) (ho : Only R w w') (hs : ∀ b, R' b → R b ∨ (w.heap.size ≤ b ∧ b < w'.heap.size)) : Lv0 d R' w' a wk zs st ph k s := by
  obtain ⟨F, FW, V, h1, h2, h3, h4⟩ := h
  refine ⟨F, FW, V, h1.only ho (fun b e r => (h4 b r).2.1 e), h2.only ho (fun b e r => (h4 b r).2.2 e), h3, fun b e => ?_⟩
  rcases hs b e with e | e
  · exact ⟨Nat.lt_of_lt_of_le (h4 b e).1 ho.size, (h4 b e).2⟩
  · exact ⟨e.2, fun f => by have := h1.lt b f; omega, fun f => by have := h2.lt b f; omega⟩
/-- Where the work is. -/
structure MK (d : Wd) (R : Nat → Prop) (w : World) (a me : Nat) (wk : Value) (p : Nat) (o : Out (List Int)) (r i : Nat) (acc : List Int) (T : Value) (wr : World) (c : Cur) (s : Sig) : Prop where
  rn : o = run (tMks r i acc) c s
  lv : Lv d (fun b => (R b ∨ b = p) ∨ T.ownBlock = some b) wr a wk c s
  kp : Kp R w wr
  tk : Tk wr p a d.W me
  row : Row 2 0 wr T acc
  new : ∀ b, T.ownBlock = some b → w.heap.size ≤ b ∧ b ≠ p
/-- A number is appended. -/
theorem MK.push {r i : Nat} {z : Int} (h : MK d R w a me wk p o r i acc T wr c s) (hR : ∀ b, R b → b < w.heap.size) (hl : acc.length ≤ 900) (hp : w.heap.size ≤ p) : ∃ A' m' c' Z, (Builtin.append_ #[37, 37] 37 #[T, .slice (some ⟨wr.heap.size, 0, none⟩) 1 1]).run Try.prog (wr.alloc (.cells #[.int .i64 z] 2)) = .ok (.slice A' m' c') Z ∧
    (∀ o' r' i', o' = run (tMks r' i' (acc ++ [z])) c s → MK d R w a me wk p o' r' i' (acc ++ [z]) (.slice A' m' c') Z c s) := by
  have hb := below_new wr (.cells #[.int .i64 z] 2)
  have hlv := h.lv.below hb
  have hr1 : Row 2 0 (wr.alloc (.cells #[.int .i64 z] 2)) T acc := h.row.alloc _
  obtain ⟨A', m', c', Z, hrun, r5, g5, l5⟩ := run_pushS hr1 (sl_one (c_new rfl rfl)) (by simp; omega) (by simp)
  have ho : Only (fun b => (R b ∨ b = p) ∨ T.ownBlock = some b) (wr.alloc (.cells #[.int .i64 z] 2)) Z := Only.grown _ g5 fun b e => .inr e
  have hsz := h.kp.size
  have hbs := hb.size
  refine ⟨A', m', c', Z, hrun, fun o' r' i' hrn => ⟨hrn, ⟨hlv.lv.own ho ?_, hlv.ok, hlv.few, hlv.in64, hlv.fit⟩, ?_, ?_, r5, ?_⟩⟩
  · rintro b (e | e)
    · exact .inl (.inl e)
    · rcases l5 b e with e' | e'
      · exact .inl (.inr e')
      · exact .inr ⟨e', (World.ownsRow.lt r5 b e).2⟩
  · refine (h.kp.trans (Kp.below hb fun b e => h.lv.lt b (.inl (.inl e)))).trans ⟨ho.os, ho.tape, ho.output, ho.size, fun b e => g5.block b ?_ fun e' => ?_⟩
    · have := h.lv.lt b (.inl (.inl e)); omega
    · have := (h.new b e'.symm).1; have := hR b e; omega
  · refine (h.tk.cells (hb.block p (h.lv.lt p (.inl (.inr rfl))))).cells (g5.block p ?_ fun e' => (h.new p e'.symm).2 rfl)
    have := h.lv.lt p (.inl (.inr rfl)); omega
  · intro b e
    rcases l5 b e with e' | e'
    · exact h.new b e'
    · have hpl := h.lv.lt p (.inl (.inr rfl))
      exact ⟨by omega, by omega⟩
set_option maxHeartbeats 1000000 in
theorem mks_walk {Nb n : Nat} (h : Lv d R w a wk c s) (hb : w.cell? ⟨Nb, 0, none⟩ = some (.int .i64 (n : Int))) (hn : n ≤ 100) :
    Calls Try.prog 36 #[tkV a d.W me, ptr Nb] w (PostW d R w a wk id (run (tMks n 0 []) c s)) := by
  obtain ⟨W, p, hW, hp, bb, tk, hsz⟩ := one_box w a d.W me
  obtain ⟨o, ho⟩ : ∃ o, run (tMks n 0 []) c s = o := ⟨_, rfl⟩
  rw [ho]
  have HM : Hid (MK d R w a me wk p o n 0 [] (.slice none 0 0) W c s) := ⟨ho.symm, h.more bb (fun b e => e.elim (fun e => e.imp id fun e => by omega) (fun e => by cases e)), Kp.new h bb, tk, Row.nil _ _ _, fun b e => by cases e⟩
  have HR : Hid (∀ b, R b → b < w.heap.size) := h.lt
  have hb2 := below_read bb hb
  have hpw : w.heap.size ≤ p := by omega
  obtain ⟨t0, t1, t2⟩ := tk
  clear h bb hsz hb ho
  go_enter Try.func36, Try.ntmps36
  go_wp2_with fail
  clear hW hp t0 t1 t2 hb2
  go_loopg [7, 4] n (fun gk i tv wr => ∃ (j : Nat) (acc : List Int) (A : Option Addr) (m q : Nat) (c' : Cur) (s' : Sig), j + gk = n ∧ i = .int .i64 (j : Int) ∧ tv = .slice A m q ∧ Hid (acc.length = j ∧ MK d R w a me wk p o gk j acc (.slice A m q) wr c' s'))
  case atStart => exact ⟨0, [], none, 0, 0, c, s, by omega, rfl, rfl, rfl, HM.out⟩
  case round =>
    clear HM
    obtain ⟨j, acc, A, m, q, c1, s1, hj, rfl, rfl, HH⟩ := hrel
    by_cases hlt : j < n
    case neg =>
      have i1 : ¬ ((j : Int) < (n : Int)) := by omega
      obtain rfl : gk = 0 := by omega
      have HE : Hid (PostW d R w a wk id o (.returned (.slice A m q)) wr) := by
        obtain ⟨h1, h2⟩ := HH.out
        rw [h2.rn]
        refine ⟨h2.kp, ⟨A, m, q, rfl, h2.row.sl, by simp only [id]; omega⟩, h2.lv.mono fun b e => .inl (.inl e)⟩
      clear HH
      go_wp2
      go_ret
      exact HE.out
    have i1 : (j : Int) < (n : Int) := by omega
    have hkw : IntKind.i64.wrap ((j : Int) + 1) = (j : Int) + 1 := IntWalk.i64_in _ (by omega)
    obtain ⟨gk, rfl⟩ : ∃ g', gk = g' + 1 := ⟨gk - 1, by omega⟩
    have d1 : (j : Int).tmod 2 = ((j % 2 : Nat) : Int) := by rw [Int.tmod_eq_emod_of_nonneg (by omega)]; rfl
    have d2 : IntKind.i64.wrap ((j % 2 : Nat) : Int) = ((j % 2 : Nat) : Int) := IntWalk.i64_in _ (by omega)
    have d3 : (((j % 2 : Nat) : Int) == 1) = odd j := by
      unfold odd
      by_cases e : j % 2 = 1
      · rw [e]; rfl
      · have : ¬ ((j % 2 : Nat) : Int) = 1 := by omega
        simp [e]
        omega
    have HD := Lib.hid (make_touch (me := me) (nd := tagNd (odd j)) HH.out.2.lv (RdR.nil _ wr false (odd j)) (by unfold Nd.small tagNd; simp))
    obtain ⟨t0, t1, t2⟩ := HH.out.2.tk
    generalize ((j % 2 : Nat) : Int) = j2 at *
    generalize hod : odd j = od at *
    have HOD := Lib.hid hod
    clear hod
    go_wp2_with fail
    refine HD.out.mono ?_
    clear HD t0 t1 t2
    intro e w1 hP
    obtain ⟨hal, hM⟩ := HH.out
    have hrun := hM.rn
    rw [tMks, HOD.out, run_tch] at hrun
    cases hr : run (tDo (gMake (tagNd od))) c1 s1 with
    | wait zs st s' =>
      rw [hr] at hP hrun
      obtain ⟨k1, rfl, k2⟩ := hP
      subst hrun
      exact ⟨rfl, hM.kp.trans (k1.mono fun b e => .inl (.inl e)), rfl, k2.mono fun b e => .inl (.inl e)⟩
    | ret z c2 s2 =>
      rw [hr] at hP hrun
      obtain ⟨k1, rfl, k2⟩ := hP
      have hM2 : MK d R w a me wk p o (gk + 1) j acc (.slice A m q) w1 c2 s2 → True := fun _ => trivial
      have hrun2 : o = run (tMks gk (j + 1) (acc ++ [z])) c2 s2 := hrun
      -- the same place, in the new memory (the tree to come is told below)
      have hbase : ∃ A' m' c' Z, (Builtin.append_ #[37, 37] 37 #[.slice A m q, .slice (some ⟨w1.heap.size, 0, none⟩) 1 1]).run Try.prog (w1.alloc (.cells #[.int .i64 z] 2)) = .ok (.slice A' m' c') Z ∧ MK d R w a me wk p o gk (j + 1) (acc ++ [z]) (.slice A' m' c') Z c2 s2 := by
        have hX : MK d R w a me wk p (run (tMks 0 0 acc) c2 s2) 0 0 acc (.slice A m q) w1 c2 s2 := ⟨rfl, k2, hM.kp.trans (k1.mono fun b e => .inl (.inl e)), hM.tk.cells (k1.block p (.inl (.inr rfl))), own_at hM.row fun b e => k1.block b (.inr e), hM.new⟩
        obtain ⟨A', m', c', Z, q1, q2⟩ := hX.push (z := z) HR.out (by omega) hpw
        exact ⟨A', m', c', Z, q1, q2 o gk (j + 1) hrun2⟩
      obtain ⟨A', m', c', Z, happ, hM3⟩ := hbase
      have H3 : Hid ((acc ++ [z]).length = j + 1 ∧ MK d R w a me wk p o gk (j + 1) (acc ++ [z]) (.slice A' m' c') Z c2 s2) := ⟨by rw [List.length_append, hal]; rfl, hM3⟩
      clear hM3 hM2 hrun2 hrun hr k1 k2 hM hal HH
      go_wp2_with (at_builtin; refine Lib.wpList_append_run _ rfl _ _ _ _ rfl _ _ rfl rfl _ _ happ ?_)
      go_roundg (gk)
      case measure => omega
      case rel => exact ⟨j + 1, acc ++ [z], A', m', c', c2, s2, by omega, by go_num, rfl, H3.out⟩
theorem mks_job {Nb n : Nat} (d : Wd) (R : Nat → Prop) (w : World) (hb : w.cell? ⟨Nb, 0, none⟩ = some (.int .i64 (n : Int))) (hN : R Nb) (hn : n ≤ 100) : Job d R w 36 me #[ptr Nb] (Inv L 0) (tMks n 0 []) id := by
  intro a wk R' w' r1 r2 w1 R1 zs st s r3 r4 h3 h4 h5
  exact mks_walk h5 (cell_same ((r4 _ (r1 _ hN)).trans (r2 _ hN)) hb) hn
end
/-- What is told, of so many nodes where there is room for so many. -/
def outK (room n : Nat) : List Int := (List.range n).map fun (i : Nat) => if i < room then mk ((i + 2 : Nat) : Int) 1 else 0
theorem outK_len (room n : Nat) : (outK room n).length = n := by simp [outK]
theorem outK_snoc (room n : Nat) : outK room (n + 1) = outK room n ++ [if n < room then mk ((n + 2 : Nat) : Int) 1 else 0] := by simp [outK, List.range_succ]
theorem outK_at {room n j : Nat} (h : j < n) : (outK room n)[j]? = some (if j < room then mk ((j + 2 : Nat) : Int) 1 else 0) := by simp [outK, h]
/-- The world with k nodes. -/
def sM (m k : Nat) : Sig := ⟨arK m odd k, 0, [(-1, [])]⟩
theorem inv_sM (m k B : Nat) (hk : k ≤ 50) (hB : B ≤ 900) : Inv 1 B (sM m k) := by
  refine inv_arK (by omega) (by omega) hB (by simp) (by omega) ?_ ?_
  · intro x hx
    simp only [List.mem_cons, List.not_mem_nil, or_false] at hx
    subst hx; exact in01.2.2
  · intro x hx
    simp only [List.mem_cons, List.not_mem_nil, or_false] at hx
    subst hx
    exact ⟨by simp only [List.length_nil]; omega, fun p hp => by cases hp⟩
theorem ev_mks (room r j : Nat) : ev (tMks r j (outK room j)) (sM (room + 2) (min j room)) = (outK room (j + r), sM (room + 2) (min (j + r) room), r) := by
  induction r generalizing j with
  | zero => simp [tMks, ev]
  | succ r ih =>
    have e : gMake (tagNd (odd j)) (sM (room + 2) (min j room)) = ((if j < room then mk ((j + 2 : Nat) : Int) 1 else 0), sM (room + 2) (min (j + 1) room)) := by
      by_cases h : j < room
      · have h1 := arK_make (room + 2) odd j (by omega)
        simp only [gMake, sM]
        rw [Nat.min_eq_left (by omega), Nat.min_eq_left (by omega), h1, if_pos h]
      · have hr : ¬ (arK (room + 2) odd room).room := by
          unfold As.room
          rw [arK_len]
          simp [arK]
        simp only [gMake, sM]
        rw [Nat.min_eq_right (by omega), Nat.min_eq_right (by omega), As.make, if_neg hr, if_neg h]
    simp only [tMks, ev, e]
    rw [← outK_snoc, ih (j + 1), show j + 1 + r = j + (r + 1) from by omega]
theorem fld_tagM (x y : Bool) (A B C : Option Addr) (n c m d p q : Nat) (W : World) : (Instr.field 42 (ndv x y (.slice A n c) (.slice B m d) (.slice C p q)) 1).run Try.prog W = .ok (.bool y) W := by first | kernel_rfl | rfl | simp [go_sem]
/-- Nodes of which the first a went. -/
def arG (m k a : Nat) : As := ⟨m, rootPa :: entryPa :: (List.range k).map (fun i => if i < a then Pa.gone 1 else tagPa (odd i)), (List.range a).map (· + 2), 0⟩
theorem arG_zero (m k : Nat) : arG m k 0 = arK m odd k := by simp [arG, arK]
theorem arG_len (m k a : Nat) : (arG m k a).pls.length = k + 2 ∧ (arG m k a).fr.length = a := by simp [arG]
theorem arG_at {k i : Nat} (m a : Nat) (h : i < k) : (arG m k a).pls[i + 2]? = some (if i < a then Pa.gone 1 else tagPa (odd i)) := by simp [arG, h]
theorem refM_pl (i : Nat) (h : i ≤ 1000) : (pl (mk ((i + 2 : Nat) : Int) 1)).toNat = i + 2 := by rw [pl_mk]; omega
theorem refM_ne (i : Nat) (h : i ≤ 1000) : mk ((i + 2 : Nat) : Int) 1 ≠ 0 := by unfold mk; omega
theorem arG_yes {k a : Nat} (m : Nat) (h : a < k) (hk : k ≤ 1000) : (arG m k a).drop (mk ((a + 2 : Nat) : Int) 1) = (1, arG m k (a + 1)) := by
  have hh : (arG m k a).hit (mk ((a + 2 : Nat) : Int) 1) = some (a + 2, tagPa (odd a)) := by
    unfold As.hit
    rw [refM_pl a (by omega), arG_at m a h, if_neg (by omega)]
    simp only
    rw [if_pos ⟨rfl, rfl⟩]
  unfold As.drop
  rw [hh]
  simp only
  refine Prod.ext rfl ?_
  simp only [As.free]
  have e1 : (arG m k a).pls.set (a + 2) (Pa.gone (tagPa (odd a)).cnt) = (arG m k (a + 1)).pls := by
    apply List.ext_getElem?
    intro j
    rw [List.getElem?_set]
    by_cases e : a + 2 = j
    · subst e
      rw [if_pos rfl, if_pos (by rw [(arG_len m k a).1]; omega), arG_at m (a + 1) h, if_pos (by omega)]
      rfl
    · rw [if_neg e]
      match j, e with
      | 0, _ => rfl
      | 1, _ => rfl
      | j + 2, e =>
        by_cases hj : j < k
        · rw [arG_at m a hj, arG_at m (a + 1) hj]
          by_cases h2 : j < a
          · rw [if_pos h2, if_pos (by omega)]
          · rw [if_neg h2, if_neg (by omega)]
        · simp [arG, hj]
  have e2 : (arG m k a).fr ++ [a + 2] = (arG m k (a + 1)).fr := by simp [arG, List.range_succ]
  show (⟨m, (arG m k a).pls.set (a + 2) (Pa.gone (tagPa (odd a)).cnt), (arG m k a).fr ++ [a + 2], 0⟩ : As) = _
  rw [e1, e2]
  rfl
def sD (m k a : Nat) : Sig := ⟨arG m k a, 0, [(-1, [])]⟩
theorem ev_drop (room n : Nat) (hn : n ≤ 100) (r a : Nat) (h : a + r = n) : ev (tDrop ((outK room n).drop a)) (sD (room + 2) (min n room) (min a room)) = ((), sD (room + 2) (min n room) (min n room), min n room - min a room) := by
  induction r generalizing a with
  | zero =>
    obtain rfl : a = n := by omega
    rw [List.drop_eq_nil_of_le (by rw [outK_len]; omega)]
    simp [tDrop, ev]
  | succ r ih =>
    have hl : a < (outK room n).length := by rw [outK_len]; omega
    have hat := outK_at (room := room) (n := n) (j := a) (by omega)
    have hdr : (outK room n).drop a = (if a < room then mk ((a + 2 : Nat) : Int) 1 else 0) :: (outK room n).drop (a + 1) := by
      rw [List.drop_eq_getElem_cons hl]
      rw [(List.getElem?_eq_some_iff.1 hat).2]
    rw [hdr]
    by_cases har : a < room
    · rw [if_pos har, tDrop, if_neg (refM_ne a (by omega))]
      have e : gFree (mk ((a + 2 : Nat) : Int) 1) (sD (room + 2) (min n room) (min a room)) = (1, sD (room + 2) (min n room) (min (a + 1) room)) := by
        simp only [gFree, sD]
        rw [Nat.min_eq_left (show a ≤ room by omega), Nat.min_eq_left (show a + 1 ≤ room by omega), arG_yes _ (by omega) (by omega)]
      simp only [ev, e]
      rw [ih (a + 1) (by omega)]
      refine Prod.ext rfl (Prod.ext rfl ?_)
      simp only
      omega
    · rw [if_neg har, tDrop, if_pos rfl]
      have e : min a room = min (a + 1) room := by omega
      rw [e]
      exact ih (a + 1) (by omega)
section
variable {d : Wd} {R R' : Nat → Prop} {w w' : World} {s : Sig} {rs : List Int} {W u : World} {T : Value} {E : Nat → Prop} {Lb : Nat}
/-- A law's list of nodes, in a variable, beside a world and other memory E that stays as in u. -/
structure LM (W u : World) (E : Nat → Prop) (d : Wd) (s : Sig) (Lb : Nat) (T : Value) (rs : List Int) (wr : World) : Prop where
  idle : Idle d (fun b => (b < W.heap.size ∨ E b) ∨ b = Lb ∨ T.ownBlock = some b) wr s
  below : Below W.heap.size W wr
  ext : ∀ b, E b → wr.heap[b]? = u.heap[b]?
  box : wr.heap[Lb]? = some (.cells #[T] 38 (0, 0))
  row : Row 30 0 wr T rs
  lb : W.heap.size ≤ Lb ∧ ¬ E Lb
  lt : ∀ b, T.ownBlock = some b → W.heap.size ≤ b ∧ ¬ E b
theorem LM.ow (h : LM W u E d s Lb T rs w) : Ow W d s w := ⟨h.idle.mono fun b e => .inl (.inl e), h.below⟩
theorem LM.cell (h : LM W u E d s Lb T rs w) : w.cell? ⟨Lb, 0, none⟩ = some T := by rw [cell_of_row w Lb _ _ _ (0, 0) h.box]; rfl
theorem LM.new (h : Idle d (fun b => b < W.heap.size ∨ E b) w s) (hb : Below W.heap.size W w) : LM W w E d s w.heap.size (.slice none 0 0) [] (w.alloc (.cells #[.slice none 0 0] 38)) := by
  have hn := below_new w (.cells #[.slice none 0 0] 38)
  refine ⟨h.more hn ?_, hb.trans (hn.mono hb.size), fun b e => hn.block b (h.lt b (.inr e)), heap_alloc_new _ _, Row.nil _ _ _, ⟨hb.size, fun e => by have := h.lt _ (.inr e); omega⟩, fun b e => (by cases e)⟩
  rintro b (e | e | e)
  · exact .inl e
  · exact .inr ⟨by omega, by simp; omega⟩
  · cases e
theorem LM.bel (h : LM W u E d s Lb T rs w) (hb : Below w.heap.size w w') : LM W u E d s Lb T rs w' := by
  obtain ⟨hi, h0, hE, hx, hr, hl, ht⟩ := h
  have hlt := hi.lt
  exact ⟨hi.more hb (fun b e => .inl e), h0.trans (hb.mono h0.size), fun b e => (hb.block b (hlt b (.inl (.inr e)))).trans (hE b e), (hb.block _ (hlt _ (.inr (.inl rfl)))).trans hx, own_at hr fun b e => hb.block _ (hlt _ (.inr (.inr e))), hl, ht⟩
theorem LM.push {r : Int} (h : LM W u E d s Lb T rs w) (hl : rs.length ≤ 1000) : ∃ A' m' c' Z, (Builtin.append_ #[38, 38] 38 #[T, .slice (some ⟨w.heap.size, 0, none⟩) 1 1]).run Try.prog (w.alloc (.cells #[.int .i64 r] 30)) = .ok (.slice A' m' c') Z ∧
    Z.cell? ⟨Lb, 0, none⟩ = some T ∧ Z.frozen? ⟨Lb, 0, none⟩ = false ∧ LM W u E d s Lb (.slice A' m' c') (rs ++ [r]) (Z.setCell ⟨Lb, 0, none⟩ (.slice A' m' c')) := by
  have hb := below_new w (.cells #[.int .i64 r] 30)
  have h1 := h.bel hb
  have hlt := h1.idle.lt
  obtain ⟨A', m', c', Z, hrun, r5, g5, l5⟩ := run_pushRf h1.row (sl_one (c_new rfl rfl)) (by simp; omega) (by simp)
  have hnT : T.ownBlock ≠ some Lb := fun e => by
    have := own_ty h1.row e
    exact absurd (this.one ⟨_, h1.box⟩) (by decide)
  have hbZ : Z.heap[Lb]? = some (.cells #[T] 38 (0, 0)) := (g5.block Lb (hlt _ (.inr (.inl rfl))) (fun e => hnT e.symm)).trans h1.box
  have ho : Only (fun b => b = Lb ∨ T.ownBlock = some b) (w.alloc (.cells #[.int .i64 r] 30)) (Z.setCell ⟨Lb, 0, none⟩ (.slice A' m' c')) := (Only.grown _ g5 fun b e => .inr e).then (Only.set _ Z (p := ⟨Lb, 0, none⟩) (.inl rfl) _)
  have hbl : ∀ b, (Value.slice A' m' c').ownBlock = some b → b < Z.heap.size := fun b e => (World.ownsRow.lt r5 b e).2
  have hkeep : ∀ b, (b < W.heap.size ∨ E b) → (Z.setCell ⟨Lb, 0, none⟩ (.slice A' m' c')).heap[b]? = (w.alloc (.cells #[.int .i64 r] 30)).heap[b]? := fun b e => ho.block b (hlt b (.inl e)) (by
    rintro (e2 | e2)
    · subst e2; exact e.elim (fun e => by have := h.lb.1; omega) h.lb.2
    · exact e.elim (fun e => by have := (h1.lt b e2).1; omega) (h1.lt b e2).2)
  refine ⟨A', m', c', Z, hrun, by rw [cell_of_row Z Lb _ _ _ (0, 0) hbZ]; rfl, frozen_of_row Z Lb 0 _ _ hbZ, h1.idle.own (ho.mono fun b e => .inr e) ?_, ?_, fun b e => (hkeep b (.inr e)).trans (h1.ext b e), heap_setCell_same Z Lb 0 _ _ _ hbZ, own_set r5 ⟨_, hbZ⟩ (by decide) _, h.lb, ?_⟩
  · rintro b (e | e | e)
    · exact .inl (.inl e)
    · exact .inl (.inr (.inl e))
    · rcases l5 b e with e' | e'
      · exact .inl (.inr (.inr e'))
      · exact .inr ⟨e', by simpa using hbl b e⟩
  · exact h1.below.trans ⟨ho.os, ho.tape, ho.output, ho.size, fun k hk => hkeep k (.inl hk)⟩
  · intro b e
    rcases l5 b e with e' | e'
    · exact h1.lt b e'
    · exact ⟨Nat.le_trans h1.below.size e', fun f => by have := hlt b (.inl (.inr f)); omega⟩
theorem LM.alone {α : Type} {out : α → List Int} {r : α × Sig × Nat} {e : Ending} (h : LM W u E d s Lb T rs w) (hP : AloneP d (fun b => (b < W.heap.size ∨ E b) ∨ b = Lb ∨ T.ownBlock = some b) w out r e w') : ∃ A n c, e = .returned (.tuple #[.slice A n c, .int .i64 ((max r.2.2 1 : Nat) : Int), .bool true]) ∧ LM W u E d r.2.1 Lb T rs w' := by
  obtain ⟨A, n, c, rfl, h1, h2, h3⟩ := hP
  exact ⟨A, n, c, rfl, h2.mono fun b e => .inl e, h.below.trans (kp_below (h3.mono fun b e => .inl (.inl e))), fun b e => (h3.block b (.inl (.inr e))).trans (h.ext b e), (h3.block _ (.inr (.inl rfl))).trans h.box, own_at h.row fun b e => h3.block _ (.inr (.inr e)), h.lb, h.lt⟩
end
set_option maxHeartbeats 1500000 in
theorem worldMakes_walk (x y : Nat) (hx : x < 256) (hy : y < 256) (w : World) :
    Calls Try.prog 7 #[.int .u8 (x : Int), .int .u8 (y : Int)] w fun e w' => e = .returned (.bool true) ∧ Below w.heap.size w w' := by
  have e3 := mk_fn
  obtain ⟨rm, hrm, hrm20⟩ : ∃ rm : Nat, x % 20 = rm ∧ rm < 20 := ⟨_, rfl, Nat.mod_lt _ (by omega)⟩
  obtain ⟨n, hn, hn30⟩ : ∃ n : Nat, y % 30 = n ∧ n < 30 := ⟨_, rfl, Nat.mod_lt _ (by omega)⟩
  have a1 : IntKind.i64.wrap (x : Int) = (x : Int) := IntWalk.i64_in _ (by omega)
  have a2 : IntKind.i64.wrap (y : Int) = (y : Int) := IntWalk.i64_in _ (by omega)
  have d1 : (x : Int).tmod 20 = (rm : Int) := by rw [← hrm, Int.tmod_eq_emod_of_nonneg (by omega)]; rfl
  have d2 : (y : Int).tmod 30 = (n : Int) := by rw [← hn, Int.tmod_eq_emod_of_nonneg (by omega)]; rfl
  have w1 : IntKind.i64.wrap (rm : Int) = (rm : Int) := IntWalk.i64_in _ (by omega)
  have w2 : IntKind.i64.wrap (n : Int) = (n : Int) := IntWalk.i64_in _ (by omega)
  have w3 : IntKind.i64.wrap (2 + (rm : Int)) = ((rm + 2 : Nat) : Int) := by rw [IntWalk.i64_in _ (by omega)]; omega
  clear hrm hn
  go_enter Try.func7, Try.ntmps7
  go_wp2_with fail
  refine (awake_walk w).mono ?_
  rintro e v1 ⟨rfl, b1⟩
  go_wp2_with fail
  refine (some_walk (L := 1) (m := rm + 2) b1 (by decide) (by omega)).mono ?_
  rintro e v2 ⟨d, rfl, hO⟩
  have hO : Ow w d (sM (rm + 2) 0) v2 := hO
  obtain ⟨X, Nb, hX, hNb, hbX, hcX, hsX⟩ : ∃ (X : World) (Nb : Nat), v2.alloc (.cells #[.int .i64 (n : Int)] 3) = X ∧ v2.heap.size = Nb ∧ Below v2.heap.size v2 X ∧ X.cell? ⟨Nb, 0, none⟩ = some (.int .i64 (n : Int)) ∧ X.heap.size = Nb + 1 := ⟨_, _, rfl, rfl, below_new _ _, c_new rfl rfl, by simp⟩
  have hI1 : Idle d (fun b => b < w.heap.size ∨ b = Nb) X (sM (rm + 2) 0) := hO.idle.more hbX (fun b e => e.imp id fun e => by omega)
  have HB1 : Hid (Below w.heap.size w X) := hO.below.trans (hbX.mono hO.below.size)
  have HNb : Hid (w.heap.size ≤ Nb) := by rw [← hNb]; exact hO.below.size
  have HS := Lib.hid (start_walk (me := 0) (g := 36) (capw := #[ptr Nb]) hI1)
  have HI1 := Lib.hid hI1
  clear b1 hO hbX hsX hI1
  go_wp2_with fail
  clear hX hNb
  refine HS.out.mono ?_
  clear HS
  intro e u1 hS
  have hev := ev_mks rm n 0
  rw [Nat.zero_min, Nat.zero_add] at hev
  have hev2 : ev (tMks n 0 []) (sM (rm + 2) 0) = (outK rm n, sM (rm + 2) (min n rm), n) := hev
  obtain ⟨a, rfl, hA⟩ := started_alone (B := 0) hS (fun a W => rfl) (mks_job d _ X (L := 1) hcX (.inr rfl) (by omega)) HI1.out.lt (tame_tMks 1 n 0 []) (by rw [hev2]; exact inv_sM (rm + 2) 0 _ (by omega) (by simp only; omega)) (by rw [hev2]; simp only; omega) (by rw [hev2]; simp only [id, outK_len]; omega)
  rw [hev2] at hA
  have HA := Lib.hid hA
  have HCX := Lib.hid hcX
  clear hA hS hev hev2 hcX
  go_wp2_with fail
  refine HA.out.mono ?_
  rintro e u2 ⟨⟨A, m, q, rfl, hrow, hidl, hkp⟩, -⟩
  simp only [id] at hrow hidl ⊢
  have hml : m = n := by have := hrow.sl.len; rw [outK_len] at this; exact this
  subst hml
  have hcN : u2.cell? ⟨Nb, 0, none⟩ = some (.int .i64 (m : Int)) := hkp.read (.inr rfl) HCX.out
  have HB2 : Hid (Below w.heap.size w u2) := HB1.out.trans (kp_below (hkp.mono fun b e => .inl e))
  obtain ⟨FW, p1, p2⟩ := hidl
  have gA := p1.cells.1
  have SU : Hid (∀ W', Below u2.heap.size u2 W' → Calls Try.prog 15 #[ptr d.A] W' fun e w' => e = .returned (.int .i64 ((min m rm : Nat) + 2 : Int)) ∧ Below W'.heap.size W' w') := by
    intro W' hb
    have hu := nxW_used (p1.below hb) (inv_sM (rm + 2) (min m rm) 0 (by omega) (by omega)).fit.ok
    have e : ((sM (rm + 2) (min m rm)).ar.pls.length : Int) - ((sM (rm + 2) (min m rm)).ar.fr.length : Int) = ((min m rm : Nat) : Int) + 2 := by
      show (((arK (rm + 2) odd (min m rm)).pls.length : Nat) : Int) - ((0 : Nat) : Int) = _
      rw [arK_len]; omega
    rw [e] at hu
    exact hu
  have HID : Hid (Idle d (fun b => (b < w.heap.size ∨ b = Nb) ∨ (Value.slice A m q).ownBlock = some b) u2 (sM (rm + 2) (min m rm))) := ⟨FW, p1, p2⟩
  have HROW : Hid (Row 2 0 u2 (.slice A m q) (outK rm m)) := hrow.lower (Nat.zero_le _)
  have HRLT : Hid (∀ b, (Value.slice A m q).ownBlock = some b → w.heap.size ≤ b) := fun b e => Nat.le_trans HB1.out.size (World.ownsRow.lt hrow b e).1
  have hC0 : u2.drew.cell? ⟨Nb, 0, none⟩ = some (.int .i64 (m : Int)) ∧ u2.drew.cell? ⟨d.W, 0, none⟩ = some (ptr d.A) := ⟨hcN, gA⟩
  have m1 : max (m : Int) 1 = ((max m 1 : Nat) : Int) := by omega
  have m2 : min (rm : Int) (m : Int) = ((min m rm : Nat) : Int) := by omega
  have m3 : IntKind.i64.wrap (2 + ((min m rm : Nat) : Int)) = ((min m rm : Nat) : Int) + 2 := by rw [IntWalk.i64_in _ (by omega)]; omega
  have hK20 : min m rm < 20 := by omega
  clear p1 p2 gA hrow hkp HA HCX HI1 hcN
  generalize hK : min m rm = K at *
  have HK := Lib.hid hK
  clear hK
  generalize ((max m 1 : Nat) : Int) = mx at *
  go_wp2_with fail
  refine region_T (fun _ => false) (fun w' => w'.cell? ⟨Nb, 0, none⟩ = some (.int .i64 (m : Int)) ∧ w'.cell? ⟨d.W, 0, none⟩ = some (ptr d.A)) (by kernel_rfl) ?_
  have hC := hC0
  refine takeX 0 35 (v := ?_) rfl rfl (by kernel_rfl) (by kernel_rfl) (by kernel_rfl) (by kernel_rfl) (by kernel_rfl) (fun _ _ _ _ h => h) hC (by rfl) ?_ ?_
  rotate_left
  · intro w hSw; (try dsimp only at hSw); go_simp; try (with_reducible rfl)
  simp only [List.setIfInBounds_toArray, List.set_cons_zero, List.set_cons_succ]
  refine takeX 1 36 (v := ?_) rfl rfl (by kernel_rfl) (by kernel_rfl) (by kernel_rfl) (by kernel_rfl) (by kernel_rfl) (fun _ _ _ _ h => h) hC (by rfl) ?_ ?_
  rotate_left
  · intro w hSw; (try dsimp only at hSw); go_simp; try (with_reducible rfl)
  simp only [List.setIfInBounds_toArray, List.set_cons_zero, List.set_cons_succ]
  refine takeX 2 37 (v := ?_) rfl rfl (by kernel_rfl) (by kernel_rfl) (by kernel_rfl) (by kernel_rfl) (by kernel_rfl) (fun _ _ _ _ h => h) hC (by rfl) ?_ ?_
  rotate_left
  · intro w hSw; (try dsimp only at hSw); go_simp; try (with_reducible rfl)
  simp only [List.setIfInBounds_toArray, List.set_cons_zero, List.set_cons_succ]
  refine takeX 3 38 (v := ?_) rfl rfl (by kernel_rfl) (by kernel_rfl) (by kernel_rfl) (by kernel_rfl) (by kernel_rfl) (fun _ _ _ _ h => h) hC (by rfl) ?_ ?_
  rotate_left
  · intro w hSw; (try dsimp only at hSw); go_simp; try (with_reducible rfl)
  simp only [List.setIfInBounds_toArray, List.set_cons_zero, List.set_cons_succ]
  refine takeX 4 39 (v := ?_) rfl rfl (by kernel_rfl) (by kernel_rfl) (by kernel_rfl) (by kernel_rfl) (by kernel_rfl) (fun _ _ _ _ h => h) hC (by rfl) ?_ ?_
  rotate_left
  · intro w hSw; (try dsimp only at hSw); go_simp; try (with_reducible rfl)
  simp only [List.setIfInBounds_toArray, List.set_cons_zero, List.set_cons_succ]
  refine takeX 5 40 (v := ?_) rfl rfl (by kernel_rfl) (by kernel_rfl) (by kernel_rfl) (by kernel_rfl) (by kernel_rfl) (fun _ _ _ _ h => h) hC (by rfl) ?_ ?_
  rotate_left
  · intro w hSw; (try dsimp only at hSw); go_simp; try (with_reducible rfl)
  simp only [List.setIfInBounds_toArray, List.set_cons_zero, List.set_cons_succ]
  refine takeX 6 41 (v := ?_) rfl rfl (by kernel_rfl) (by kernel_rfl) (by kernel_rfl) (by kernel_rfl) (by kernel_rfl) (fun _ _ _ _ h => h) hC (by rfl) ?_ ?_
  rotate_left
  · intro w hSw; (try dsimp only at hSw); go_simp; try (with_reducible rfl)
  simp only [List.setIfInBounds_toArray, List.set_cons_zero, List.set_cons_succ]
  refine takeX 7 42 (v := ?_) rfl rfl (by kernel_rfl) (by kernel_rfl) (by kernel_rfl) (by kernel_rfl) (by kernel_rfl) (fun _ _ _ _ h => h) hC (by rfl) ?_ ?_
  rotate_left
  · intro w hSw; (try dsimp only at hSw); go_simp; try (with_reducible rfl)
  simp only [List.setIfInBounds_toArray, List.set_cons_zero, List.set_cons_succ]
  refine takeX 8 43 (v := ?_) rfl rfl (by kernel_rfl) (by kernel_rfl) (by kernel_rfl) (by kernel_rfl) (by kernel_rfl) (fun _ _ _ _ h => h) hC (by rfl) ?_ ?_
  rotate_left
  · intro w hSw; (try dsimp only at hSw); go_simp; try (with_reducible rfl)
  simp only [List.setIfInBounds_toArray, List.set_cons_zero, List.set_cons_succ]
  refine takeX 9 44 (v := ?_) rfl rfl (by kernel_rfl) (by kernel_rfl) (by kernel_rfl) (by kernel_rfl) (by kernel_rfl) (fun _ _ _ _ h => h) hC (by rfl) ?_ ?_
  rotate_left
  · intro w hSw; (try dsimp only at hSw); go_simp; try (with_reducible rfl)
  simp only [List.setIfInBounds_toArray, List.set_cons_zero, List.set_cons_succ]
  refine takeX 10 45 (v := ?_) rfl rfl (by kernel_rfl) (by kernel_rfl) (by kernel_rfl) (by kernel_rfl) (by kernel_rfl) (fun _ _ _ _ h => h) hC (by rfl) ?_ ?_
  rotate_left
  · intro w hSw; (try dsimp only at hSw); go_simp; try (with_reducible rfl)
  simp only [List.setIfInBounds_toArray, List.set_cons_zero, List.set_cons_succ]
  refine takeX 11 46 (v := ?_) rfl rfl (by kernel_rfl) (by kernel_rfl) (by kernel_rfl) (by kernel_rfl) (by kernel_rfl) (fun _ _ _ _ h => h) hC (by rfl) ?_ ?_
  rotate_left
  · intro w hSw; (try dsimp only at hSw); go_simp; try (with_reducible rfl)
  simp only [List.setIfInBounds_toArray, List.set_cons_zero, List.set_cons_succ]
  refine takeX 12 47 (v := ?_) rfl rfl (by kernel_rfl) (by kernel_rfl) (by kernel_rfl) (by kernel_rfl) (by kernel_rfl) (fun _ _ _ _ h => h) hC (by rfl) ?_ ?_
  rotate_left
  · intro w hSw; (try dsimp only at hSw); go_simp; try (with_reducible rfl)
  simp only [List.setIfInBounds_toArray, List.set_cons_zero, List.set_cons_succ]
  refine takeX 13 48 (v := ?_) rfl rfl (by kernel_rfl) (by kernel_rfl) (by kernel_rfl) (by kernel_rfl) (by kernel_rfl) (fun _ _ _ _ h => h) hC (by rfl) ?_ ?_
  rotate_left
  · intro w hSw; (try dsimp only at hSw); go_simp; try (with_reducible rfl)
  simp only [List.setIfInBounds_toArray, List.set_cons_zero, List.set_cons_succ]
  refine takeX 14 49 (v := ?_) rfl rfl (by kernel_rfl) (by kernel_rfl) (by kernel_rfl) (by kernel_rfl) (by kernel_rfl) (fun _ _ _ _ h => h) hC (by rfl) ?_ ?_
  rotate_left
  · intro w hSw; (try dsimp only at hSw); go_simp; try (with_reducible rfl)
  simp only [List.setIfInBounds_toArray, List.set_cons_zero, List.set_cons_succ]
  refine takeX 15 50 (v := ?_) rfl rfl (by kernel_rfl) (by kernel_rfl) (by kernel_rfl) (by kernel_rfl) (by kernel_rfl) (fun _ _ _ _ h => h) hC (by rfl) ?_ ?_
  rotate_left
  · intro w hSw; (try dsimp only at hSw); go_simp; try (with_reducible rfl)
  simp only [List.setIfInBounds_toArray, List.set_cons_zero, List.set_cons_succ]
  refine takeX 16 51 (v := ?_) rfl rfl (by kernel_rfl) (by kernel_rfl) (by kernel_rfl) (by kernel_rfl) (by kernel_rfl) (fun _ _ _ _ h => h) hC (by rfl) ?_ ?_
  rotate_left
  · intro w hSw; (try dsimp only at hSw); go_simp; try (with_reducible rfl)
  simp only [List.setIfInBounds_toArray, List.set_cons_zero, List.set_cons_succ]
  refine takeX 17 52 (v := ?_) rfl rfl (by kernel_rfl) (by kernel_rfl) (by kernel_rfl) (by kernel_rfl) (by kernel_rfl) (fun _ _ _ _ h => h) hC (by rfl) ?_ ?_
  rotate_left
  · intro w hSw; (try dsimp only at hSw); go_simp; try (with_reducible rfl)
  simp only [List.setIfInBounds_toArray, List.set_cons_zero, List.set_cons_succ]
  refine takeX 18 53 (v := ?_) rfl rfl (by kernel_rfl) (by kernel_rfl) (by kernel_rfl) (by kernel_rfl) (by kernel_rfl) (fun _ _ _ _ h => h) hC (by rfl) ?_ ?_
  rotate_left
  · intro w hSw; (try dsimp only at hSw); go_simp; try (with_reducible rfl)
  simp only [List.setIfInBounds_toArray, List.set_cons_zero, List.set_cons_succ]
  refine takeX 20 55 (v := ?_) rfl rfl (by kernel_rfl) (by kernel_rfl) (by kernel_rfl) (by kernel_rfl) (by kernel_rfl) (fun _ _ _ _ h => h) hC (by rfl) ?_ ?_
  rotate_left
  · intro w hSw; (try dsimp only at hSw); go_simp; try (with_reducible rfl)
  simp only [List.setIfInBounds_toArray, List.set_cons_zero, List.set_cons_succ]
  refine takeX 21 56 (v := ?_) rfl rfl (by kernel_rfl) (by kernel_rfl) (by kernel_rfl) (by kernel_rfl) (by kernel_rfl) (fun _ _ _ _ h => h) hC (by rfl) ?_ ?_
  rotate_left
  · intro w hSw; (try dsimp only at hSw); go_simp; try (with_reducible rfl)
  simp only [List.setIfInBounds_toArray, List.set_cons_zero, List.set_cons_succ]
  refine takeX 22 57 (v := ?_) rfl rfl (by kernel_rfl) (by kernel_rfl) (by kernel_rfl) (by kernel_rfl) (by kernel_rfl) (fun _ _ _ _ h => h) hC (by rfl) ?_ ?_
  rotate_left
  · intro w hSw; (try dsimp only at hSw); go_simp; try (with_reducible rfl)
  simp only [List.setIfInBounds_toArray, List.set_cons_zero, List.set_cons_succ]
  refine takeX 23 58 (v := ?_) rfl rfl (by kernel_rfl) (by kernel_rfl) (by kernel_rfl) (by kernel_rfl) (by kernel_rfl) (fun _ _ _ _ h => h) hC (by rfl) ?_ ?_
  rotate_left
  · intro w hSw; (try dsimp only at hSw); go_simp; try (with_reducible rfl)
  simp only [List.setIfInBounds_toArray, List.set_cons_zero, List.set_cons_succ]
  refine oneT (i := 19) (by kernel_rfl) rfl (by rfl) (fun K' hK' => ?_)
  go_simp
  refine (SU.out _ ((Below.refl _ u2).drew)).mono ?_
  rintro e u3 ⟨rfl, hb3⟩
  have hb4 : Below u2.heap.size u2 u3 := ((Below.refl _ u2).drew).trans hb3
  have hC1 : u3.cell? ⟨Nb, 0, none⟩ = some (.int .i64 (m : Int)) ∧ u3.cell? ⟨d.W, 0, none⟩ = some (ptr d.A) := ⟨below_read hb4 hC0.1, below_read hb4 hC0.2⟩
  refine hK'.out _ _ (fun _ => hC1) ?_
  have HB4 := Lib.hid hb4
  clear hK' K' SU hC hC0 hb3 hb4
  have hC := hC1
  try simp only [Act.put, List.setIfInBounds_toArray, List.set_cons_zero, List.set_cons_succ]
  refine takeX 24 59 (v := ?_) rfl rfl (by kernel_rfl) (by kernel_rfl) (by kernel_rfl) (by kernel_rfl) (by kernel_rfl) (fun _ _ _ _ h => h) hC (by rfl) ?_ ?_
  rotate_left
  · intro w hSw; (try dsimp only at hSw); go_simp; try (with_reducible rfl)
  simp only [List.setIfInBounds_toArray, List.set_cons_zero, List.set_cons_succ]
  refine takeX 25 60 (v := ?_) rfl rfl (by kernel_rfl) (by kernel_rfl) (by kernel_rfl) (by kernel_rfl) (by kernel_rfl) (fun _ _ _ _ h => h) hC (by rfl) ?_ ?_
  rotate_left
  · intro w hSw; (try dsimp only at hSw); go_simp; try (with_reducible rfl)
  simp only [List.setIfInBounds_toArray, List.set_cons_zero, List.set_cons_succ]
  refine doneT (by kernel_rfl) ?_
  have hcU3 := hC1.1
  clear hC hC1 m1 m3
  have HLM : Hid (LM w u3 (fun b => b = Nb ∨ (Value.slice A m q).ownBlock = some b) d (sM (rm + 2) K) u3.heap.size (.slice none 0 0) [] (u3.alloc (.cells #[.slice none 0 0] 38))) := LM.new (HID.out.more HB4.out (fun b e => .inl (by rcases e with e | e | e; exact .inl (.inl e); exact .inl (.inr e); exact .inr e))) (HB2.out.trans (HB4.out.mono HB2.out.size))
  have HC3 : Hid (u3.cell? ⟨Nb, 0, none⟩ = some (.int .i64 (m : Int))) := hcU3
  have HROW3 : Hid (Row 2 0 u3 (.slice A m q) (outK rm m)) := HROW.out.next HB4.out
  obtain ⟨Y, Lb, hY, hLb, hLM⟩ : ∃ (Y : World) (Lb : Nat), u3.alloc (.cells #[.slice none 0 0] 38) = Y ∧ u3.heap.size = Lb ∧ LM w u3 (fun b => b = Nb ∨ (Value.slice A m q).ownBlock = some b) d (sM (rm + 2) K) Lb (.slice none 0 0) (outK rm 0) Y := ⟨_, _, rfl, rfl, HLM.out⟩
  have HL := Lib.hid hLM
  clear HLM hLM HID HROW HRLT HB1 HB2 HB4
  go_wp2_with fail
  clear hY hLb
  go_loopg [63] m (fun gk i wr => ∃ (j : Nat) (B : Option Addr) (m' q' : Nat), j + gk = m ∧ i = .int .i64 (j : Int) ∧ Hid (LM w u3 (fun b => b = Nb ∨ (Value.slice A m q).ownBlock = some b) d (sM (rm + 2) K) Lb (.slice B m' q') (outK rm j) wr))
  case atStart => exact ⟨0, none, 0, 0, by omega, rfl, HL.out⟩
  case round =>
    clear HL
    obtain ⟨j, B, m', q', hj, rfl, HH⟩ := hrel
    by_cases hlt : j < m
    case pos =>
      have i1 : (j : Int) < (m : Int) := by omega
      have i0 : (0 : Int) ≤ (j : Int) := by omega
      have hkw : IntKind.i64.wrap ((j : Int) + 1) = (j : Int) + 1 := IntWalk.i64_in _ (by omega)
      have hrw : Row 2 0 wr (.slice A m q) (outK rm m) := own_at HROW3.out fun b e => HH.out.ext b (.inr e)
      obtain ⟨b, off, hA, hbl, hc⟩ := hrw.sl.at0 hlt
      have hgd : (outK rm m).getD j 0 = if j < rm then mk ((j + 2 : Nat) : Int) 1 else 0 := by simp [List.getD, outK_at hlt]
      rw [hgd] at hc
      subst hA
      obtain ⟨g0, g1, g2, g3, g4, g5⟩ := HH.out.ow.cells
      have hcl := HH.out.cell
      have hpush : ∀ (r : Int), (if j < rm then mk ((j + 2 : Nat) : Int) 1 else 0) = r → ∀ W', Below wr.heap.size wr W' → ∃ A' m2' c' Z, (Builtin.append_ #[38, 38] 38 #[.slice B m' q', .slice (some ⟨W'.heap.size, 0, none⟩) 1 1]).run Try.prog (W'.alloc (.cells #[.int .i64 r] 30)) = .ok (.slice A' m2' c') Z ∧
          W'.cell? ⟨Lb, 0, none⟩ = some (.slice B m' q') ∧ Z.cell? ⟨Lb, 0, none⟩ = some (.slice B m' q') ∧ Z.frozen? ⟨Lb, 0, none⟩ = false ∧ LM w u3 (fun b' => b' = Nb ∨ (Value.slice (some ⟨b, off, none⟩) m q).ownBlock = some b') d (sM (rm + 2) K) Lb (.slice A' m2' c') (outK rm (j + 1)) (Z.setCell ⟨Lb, 0, none⟩ (.slice A' m2' c')) := by
        intro r hr W' hb
        have hL := HH.out.bel hb
        obtain ⟨A', m2', c', Z, z0, z1, z2, z3⟩ := hL.push (r := r) (by rw [outK_len]; omega)
        exact ⟨A', m2', c', Z, z0, hL.cell, z1, z2, by rw [outK_snoc, hr]; exact z3⟩
      have HPU := Lib.hid hpush
      obtain ⟨FW, p1, p2⟩ := HH.out.idle
      have d4 : (j : Int).tmod 2 = ((j % 2 : Nat) : Int) := by rw [Int.tmod_eq_emod_of_nonneg (by omega)]; rfl
      have d5 : IntKind.i64.wrap ((j % 2 : Nat) : Int) = ((j % 2 : Nat) : Int) := IntWalk.i64_in _ (by omega)
      have d6 : (((j % 2 : Nat) : Int) == 1) = odd j := by
        unfold odd
        by_cases e : j % 2 = 1
        · rw [e]; rfl
        · have : ¬ ((j % 2 : Nat) : Int) = 1 := by omega
          simp [e]
          omega
      by_cases hjr : j < rm
      · rw [if_pos hjr] at hc HPU
        have hhit := arK_hit (rm + 2) odd K j (by have := HK.out; omega) (by omega)
        have S1 := Lib.hid (nxW_look p1 (inv_sM (rm + 2) K 0 (by omega) (by omega)).fit.ok hhit)
        have hne := refM_ne j (by omega)
        generalize mk ((j + 2 : Nat) : Int) 1 = r at *
        have b1 : (r != 0) = true := by simpa using hne
        have i2 : (j : Int) < (rm : Int) := by omega
        obtain ⟨od, hod⟩ : ∃ od, odd j = od := ⟨_, rfl⟩
        rw [hod] at d6
        generalize ((j % 2 : Nat) : Int) = j2 at *
        clear HH p1 p2 hpush hhit hne hgd hrw g1 g2 g3 g4 g5
        go_wp2_with fail
        refine S1.out.mono ?_
        rintro e u4 ⟨pv, kv, zv, rfl, s1, s2, s3, hb4⟩
        obtain ⟨_, _, _, rfl⟩ := s1.shape
        obtain ⟨_, _, _, rfl⟩ := s2.shape
        obtain ⟨_, _, _, rfl⟩ := s3.shape
        clear s1 s2 s3 S1
        have hfl := fld_tagM
        rw [show (tagPa (odd j)).nd.inn = false from rfl, show (tagPa (odd j)).nd.tag = od from hod]
        obtain ⟨A', m2', c', Z, hrun, z0, z1, z2, z3⟩ := HPU.out r rfl u4 hb4
        have H := Lib.hid z3
        clear z3 HPU hb4 hcl hc hod
        go_wp2_with (at_builtin; refine Lib.wpList_append_run _ rfl _ _ _ _ rfl _ _ rfl rfl _ _ hrun ?_)
        go_roundg (gk - 1)
        case measure => omega
        case rel => exact ⟨j + 1, A', m2', c', by omega, by go_num, H.out⟩
      · rw [if_neg hjr] at hc HPU
        have i2 : ¬ (j : Int) < (rm : Int) := by omega
        obtain ⟨A', m2', c', Z, hrun, z0, z1, z2, z3⟩ := HPU.out 0 rfl wr (Below.refl _ _)
        have H := Lib.hid z3
        clear HH p1 p2 hpush hgd hrw g1 g2 g3 g4 g5 z3 HPU z0 g0
        go_wp2_with (at_builtin; refine Lib.wpList_append_run _ rfl _ _ _ _ rfl _ _ rfl rfl _ _ hrun ?_)
        go_roundg (gk - 1)
        case measure => omega
        case rel => exact ⟨j + 1, A', m2', c', by omega, by go_num, H.out⟩
    have i1 : ¬ ((j : Int) < (m : Int)) := by omega
    obtain rfl : j = m := by omega
    have hlen : m' = j := by have := HH.out.row.sl.len; rw [outK_len] at this; exact this
    subst hlen
    have hc0 := HH.out.cell
    have HS := Lib.hid (start_walk (me := 0) (g := 38) (capw := #[ptr Lb]) HH.out.idle)
    go_wp2_with fail
    refine HS.out.mono ?_
    clear HS
    intro e u4 hS
    have hev := ev_drop rm m' (by omega) m' 0 (by omega)
    rw [List.drop_zero, HK.out, Nat.zero_min, Nat.sub_zero] at hev
    have hs0 : sD (rm + 2) K 0 = sM (rm + 2) K := by simp only [sD, sM, arG_zero]
    rw [hs0] at hev
    have hAd : ∀ ad : Addr, B = some ad → (Value.slice B m' q').ownBlock = some ad.block := fun ad e => by subst e; rfl
    obtain ⟨a2, rfl, hA2⟩ := started_alone (B := 0) hS (fun a W => rfl) (drp1_job d _ wr (L := 1) (by omega) hc0 (.inr (.inl rfl)) HH.out.row.sl (fun ad e => .inr (.inr (hAd ad e))) (by omega)) HH.out.idle.lt (tame_tDrop (outK rm m')) (by rw [hev]; exact inv_sM (rm + 2) K _ (by omega) (by simp only; omega)) (by rw [hev]; simp only; omega) (by simp [nilOut])
    rw [hev] at hA2
    have HA := Lib.hid hA2
    clear hA2 hS hev hc0 hs0
    go_wp2_with fail
    refine HA.out.mono ?_
    rintro e u5 ⟨hP, hI5⟩
    obtain ⟨A', n', c', rfl, hLM5⟩ := HH.out.alone hP
    simp only at hLM5 hI5 ⊢
    have hcN : u5.cell? ⟨Nb, 0, none⟩ = some (.int .i64 (m' : Int)) := cell_same (hLM5.ext Nb (.inl rfl)) HC3.out
    obtain ⟨FW, p1, p2⟩ := hLM5.idle
    obtain ⟨g0, g1, g2, g3, g4, g5⟩ := hLM5.ow.cells
    have SU := nxW_used p1 hI5.fit.ok
    have eU : ((sD (rm + 2) K K).ar.pls.length : Int) - ((sD (rm + 2) K K).ar.fr.length : Int) = 2 := by
      simp only [sD]
      rw [(arG_len (rm + 2) K K).1, (arG_len (rm + 2) K K).2]; omega
    rw [eU] at SU
    have SU := Lib.hid SU
    have SF : Hid (∀ W', Below u5.heap.size u5 W' → Calls Try.prog 17 #[ptr d.A] W' fun e w' => e = .returned (.int .i64 0) ∧ W' = w') := fun W' hb => nxW_faults (p1.below hb)
    have HB5 := Lib.hid hLM5.below
    have m4 : max ((K : Nat) : Int) 1 = ((max K 1 : Nat) : Int) := by omega
    clear HH HA hP hLM5 hI5 p1 p2 eU g1 g2 g3 g4 g5
    generalize ((max K 1 : Nat) : Int) = mk1 at *
    go_wp2_with fail
    refine SU.out.mono ?_
    rintro e u6 ⟨rfl, hb6⟩
    have g6 := below_read hb6 g0
    have S6 := Lib.hid (SF.out u6 hb6)
    have HB6 : Hid (Below w.heap.size w u6) := HB5.out.trans (hb6.mono HB5.out.size)
    clear SU SF hb6 HB5 g0 hcN
    go_wp2_with fail
    refine S6.out.mono ?_
    rintro e u7 ⟨rfl, rfl⟩
    go_wp2
    go_ret
    exact ⟨rfl, HB6.out⟩
end Go.Proofs.Ytmnbdhngadjmiaa
