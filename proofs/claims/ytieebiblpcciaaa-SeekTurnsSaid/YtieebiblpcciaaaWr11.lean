/-
  The laws' work that goes to a key: of each node on the way its reference, which way goes on, how many keys it has.
-/
import Derived.Test.YtieebiblpcciaaaPu11
namespace Go.Proofs.Ytieebiblpcciaaa
open Go.ChangeShapes Go.WideShapes Go.ChangeAt Go.RowKit
set_option linter.unusedVariables false
set_option linter.unusedSimpArgs false
set_option maxRecDepth 20000

def cntN (nd : Nd) : Int := if nd.inn = true then (nd.ks.length : Int) else -1 - (nd.ps.length : Int)
def flatS (l : List Sp) : List Int := l.flatMap fun x => [x.rf, x.wy, Go.Proofs.Ytieebiblpcciaaa.cntN x.nd]
theorem flatS_len (l : List Sp) : (flatS l).length = 3 * l.length := by
  induction l with
  | nil => rfl
  | cons x l ih => show (_ ++ flatS l).length = _; rw [List.length_append, ih]; simp; omega
theorem flatS_snoc (l : List Sp) (x : Sp) : flatS (l ++ [x]) = flatS l ++ [x.rf, x.wy, Go.Proofs.Ytieebiblpcciaaa.cntN x.nd] := by unfold flatS; rw [List.flatMap_append]; simp
def tWalk (nds : List (Int × Nd)) (rk : Int → Nat) (key : Int) (f : Nat) (en : Int) : Tr (List Int) := (tPath nds rk key f en []).bind fun l => .ret (flatS l)
theorem rets_small {nds : List (Int × Nd)} {rk : Int → Nat} {key : Int} (hN : NdsOk nds) (f : Nat) (r : Int) (acc : List Sp) (ha : ∀ x ∈ acc, x.nd.small) : rets (fun l => ∀ x ∈ l, x.nd.small) (tPath nds rk key f r acc) := by
  induction f generalizing r acc with
  | zero => exact fun _ x hx => by cases hx
  | succ f ih =>
    unfold tPath
    split
    · exact fun _ x hx => by cases hx
    · rename_i nd hl
      have h2 : ∀ x ∈ acc ++ [(⟨r, nd, wyOf nd key⟩ : Sp)], x.nd.small := fun x hx => by
        rcases List.mem_append.1 hx with e | e
        · exact ha x e
        · obtain rfl := List.mem_singleton.1 e
          exact (hN _ (lookup_mem hl)).1
      split
      · split
        · exact fun z => ih z _ h2
        · exact h2
      · exact fun _ x hx => by cases hx
/-- What is told grows: its row T; the steps stay. -/
structure WKI (d : Wd) (R : Nat → Prop) (w : World) (a : Nat) (wk : Value) (c : Cur) (s : Sig) (q : Nat) (sv : Value) (l : List Sp) (Y : Nat → Prop) (T : Value) (zs : List Int) (wr : World) : Prop where
  lv : Lv d (fun b => R b ∨ T.ownBlock = some b) wr a wk c s
  kp : Kp R w wr
  st : SpL l Y wr sv
  yo : ∀ b, Y b → b < q
  row : Row i6T 0 wr T zs
  own : ∀ b, T.ownBlock = some b → q ≤ b
  rq : ∀ b, R b → b < q
  sz : q ≤ wr.heap.size
section
variable {nds : List (Int × Nd)} {rk : Int → Nat} {M mo D : Nat} {d : Wd} {R R' X X' : Nat → Prop} {w w' w0 wr w1 : World} {a st ph k me p q : Nat} {wk sv T : Value} {zs ws : List Int} {c : Cur} {s : Sig} {n r key : Int} {nd : Nd} {l : List Sp} {Y : Nat → Prop}
theorem WKI.below (h : WKI d R w a wk c s q sv l Y T zs wr) (hb : Below wr.heap.size wr w') : WKI d R w a wk c s q sv l Y T zs w' :=
  ⟨h.lv.below hb, h.kp.trans (Kp.below hb fun b e => h.lv.lt b (.inl e)), h.st.keep (fun b e => hb.block b (Nat.lt_of_lt_of_le (h.yo b e) h.sz)) fun b e => e, h.yo, own_at h.row fun b e => hb.block b (h.lv.lt b (.inr e)), h.own, h.rq, Nat.le_trans h.sz hb.size⟩
theorem WKI.push {x y z : Int} {g : Nat} (h : WKI d R w a wk c s q sv l Y T zs wr) (hl : zs.length ≤ 1000) (hg : wr.heap.size = g) :
    ∃ A' m' c' Z, (Builtin.append_ #[29, 29] 29 #[T, .slice (some ⟨g, 0, none⟩) 3 3]).run Try.prog (wr.alloc (.cells #[.int .i64 x, .int .i64 y, .int .i64 z] i6T)) = .ok (.slice A' m' c') Z ∧ WKI d R w a wk c s q sv l Y (.slice A' m' c') (zs ++ [x, y, z]) Z := by
  subst hg
  have hb := below_new wr (.cells #[.int .i64 x, .int .i64 y, .int .i64 z] i6T)
  have hsl : Sl (wr.alloc (.cells #[.int .i64 x, .int .i64 y, .int .i64 z] i6T)) (some ⟨wr.heap.size, 0, none⟩) 3 3 [x, y, z] := by
    refine ⟨rfl, Nat.le_refl _, (fun e => by cases e), .inr ⟨_, 0, rfl, fun i u hu => ?_⟩⟩
    rw [cell_of_row _ _ _ _ _ (0, 0) (heap_alloc_new wr _), Nat.zero_add]
    match i, hu with
    | 0, hu => simp at hu; subst hu; rfl
    | 1, hu => simp at hu; subst hu; rfl
    | 2, hu => simp at hu; subst hu; rfl
  obtain ⟨A', m', c', Z, q1, q2, q3, q4⟩ := run_pushN rowK (own_at h.row fun b e => hb.block b (h.lv.lt b (.inr e))) hsl (by simp; omega) (by simp)
  have hlv := h.lv.below hb
  have hZ : ∀ b, (Value.slice A' m' c').ownBlock = some b → b < Z.heap.size := fun b e => (World.ownsRow.lt q2 b e).2
  have hne : ∀ b, R b → some b ≠ T.ownBlock := fun b e f => by have := h.own b f.symm; have := h.rq b e; omega
  refine ⟨A', m', c', Z, q1, ⟨hlv.lv.kept q3 (fun b e => .inr e) (fun b e => ?_), hlv.ok, hlv.few, hlv.in64, hlv.fit⟩, ?_, h.st.keep (fun b e => ?_) (fun b e => e), h.yo, q2, fun b e => ?_, h.rq, Nat.le_trans h.sz (Nat.le_trans hb.size q3.size)⟩
  · rcases e with e | e
    · exact .inl (.inl e)
    · exact (q4 b e).imp .inr fun e2 => ⟨e2, hZ b e⟩
  · exact (h.kp.trans (Kp.below hb fun b e => h.lv.lt b (.inl e))).trans ⟨q3.os, q3.tape, q3.output, q3.size, fun b e => q3.block b (hlv.lt b (.inl e)) fun f => hne b e f⟩
  · have hq := h.yo b e
    have hlt : b < wr.heap.size := Nat.lt_of_lt_of_le hq h.sz
    rw [q3.block b (Nat.lt_of_lt_of_le hlt hb.size) (fun f => by have := h.own b f.symm; omega), hb.block b hlt]
  · rcases q4 b e with e2 | e2
    · exact h.own b e2
    · exact Nat.le_trans (Nat.le_trans h.sz hb.size) e2
set_option maxHeartbeats 4000000 in
theorem walker1_walk {Bn : Nat} (hN : NdsOk nds) (hmo : mo ≤ 70000) (hD : D ≤ mo) (hD2 : D ≤ 300) (hen : (nds.lookup d.en).isSome = true ∧ rk d.en ≤ D) (h : Lv d R w a wk c s) (hP : SkI nds rk M mo s) (hpt : c.live = true → path (tWalk nds rk key (D + 1) d.en) (c.zs.drop c.k) s) (hR : R Bn) (hc : w.cell? ⟨Bn, 0, none⟩ = some (.int .i64 key)) :
    Calls Try.prog 82 #[tkV a d.W me, ptr Bn] w (PostW d R w a wk idO (run (tWalk nds rk key (D + 1) d.en) c s)) := by
  have HRL := Lib.hid h.lt
  obtain ⟨W, p, hW, hp, bb, tk, hsz⟩ := one_box w a d.W me
  obtain ⟨o, ho⟩ : ∃ o, run (tWalk nds rk key (D + 1) d.en) c s = o := ⟨_, rfl⟩
  rw [ho]
  have HB : Hid (BT (SkI nds rk M mo) d R (fun b => R b ∨ b = p) w a me wk p o (tWalk nds rk key (D + 1) d.en) W c s) := by
    show BT _ _ _ _ _ _ _ _ _ _ _ _ _ _
    rw [← ho]
    exact BT.begin_ h bb (fun b e => e.imp id fun e => by omega) (fun b e => e) tk hP
  have HD := Lib.hid (path_touch (me := me) (K := fun l => (.ret (flatS l) : Tr (List Int))) hN hmo hD hen HB.out.lv HB.out.inv hpt)
  have HD2 := Lib.hid hD2
  have HNO := Lib.hid hN
  obtain ⟨t0, t1, t2⟩ := tk
  have hcW := below_read bb hc
  have HPP := Lib.hid hp
  clear h bb hsz hP ho hc hpt hN hen hD hD2
  go_enter Try.func82, Try.ntmps82
  go_wp2_with fail
  (try rw [hW])
  refine HD.out.mono ?_
  clear HD t0 t1 t2 hcW hW
  intro e w1 hPm
  rcases BT.callM (P := SkI nds rk M mo) (t := tPath nds rk key (D + 1) d.en []) (o := o) (K := fun l : List Sp => (.ret (flatS l) : Tr (List Int))) HB.out (keeps_kpP (kp_path _ _ _)) hPm with ⟨l, c2, s2, v, Y, rfl, hrun, hu, hB, hKp, hYn⟩ | hx
  case inr => obtain ⟨rfl, hx⟩ := hx; exact ⟨rfl, Wts.postW ⟨rfl, hx⟩⟩
  have hlen : l.length ≤ ([] : List Sp).length + (D + 1) := run_rets (Q := fun l => l.length ≤ ([] : List Sp).length + (D + 1)) (rets_path (D + 1) d.en []) hrun
  rw [List.length_nil, Nat.zero_add] at hlen
  have hsm0 : ∀ x ∈ l, x.nd.small := run_rets (Q := fun l : List Sp => ∀ x ∈ l, x.nd.small) (rets_small HNO.out (D + 1) d.en [] fun x hx => by cases hx) hrun
  have HSM : Hid (∀ x ∈ l, x.nd.small) := hsm0
  clear hsm0
  have hu : SpL l Y w1 v := hu
  obtain ⟨A4, q4, rfl, -⟩ := hu.shape
  have HRN : Hid (o = .ret (flatS l) c2 s2) := hB.rn
  have HWK : Hid (WKI d R w a wk c2 s2 w1.heap.size (.slice A4 l.length q4) l Y (.slice none 0 0) (flatS (l.take 0)) w1) := by
    refine ⟨hB.lv.mono fun b e => ?_, hB.kp, hu, fun b e => hB.lv.lt b (.inr e), Row.nil _ _ _, fun b e => (by cases e), fun b e => hB.lv.lt b (.inl (.inl e)), Nat.le_refl _⟩
    rcases e with e | e
    · exact .inl (.inl e)
    · cases e
  obtain ⟨m, hm⟩ : ∃ m, l.length = m := ⟨_, rfl⟩
  have HMM := Lib.hid hm
  have hm3 : m ≤ 301 := by have := HD2.out; omega
  rw [hm] at HWK
  dsimp only
  (try rw [hm])
  generalize w1.heap.size = q0 at HWK
  clear hB hKp hYn hu hPm HB HRL hrun hm hlen HPP hp
  go_wp2_with fail
  go_loopg [12, 4] m (fun gk iv tv wr => ∃ (j : Nat) (A : Option Addr) (n0 c0 : Nat), j + gk = m ∧ iv = .int .i64 (j : Int) ∧ tv = .slice A n0 c0 ∧ Hid (WKI d R w a wk c2 s2 q0 (.slice A4 m q4) l Y (.slice A n0 c0) (flatS (l.take j)) wr))
  case atStart => exact ⟨0, _, _, _, by omega, rfl, rfl, HWK.out⟩
  case round =>
    clear HWK
    obtain ⟨j, A, n0, c0, hj, rfl, rfl, HH⟩ := hrel
    by_cases hlt : j < m
    case neg =>
      have i1 : ¬ ((j : Int) < (m : Int)) := by omega
      have HE : Hid (PostW d R w a wk idO o (.returned (.slice A n0 c0)) wr) := by
        have h := HH.out
        rw [List.take_of_length_le (by rw [HMM.out]; omega)] at h
        show PostW _ _ _ _ _ _ _ _ _
        rw [HRN.out]
        exact ⟨h.kp, ⟨A, n0, c0, rfl, h.row.sl, by show (flatS l).length ≤ 1000; rw [flatS_len, HMM.out]; omega⟩, h.lv.mono fun b e => .inl e⟩
      clear HH
      go_wp2
      go_ret
      exact HE.out
    have i1 : (j : Int) < (m : Int) := by omega
    have i0 : (0 : Int) ≤ (j : Int) := by omega
    have hkw : IntKind.i64.wrap ((j : Int) + 1) = (j : Int) + 1 := IntWalk.i64_in _ (by omega)
    have hjl : j < l.length := by rw [HMM.out]; exact hlt
    obtain ⟨x, hx⟩ : ∃ x, l[j]? = some x := ⟨_, List.getElem?_eq_getElem hjl⟩
    obtain ⟨g, pv, kv, zv, rfl, -, -, hNv, y0, y1, y2, y3, y4, y5, y6⟩ := HH.out.st.at_ hx
    obtain ⟨P1, n1, q1, rfl⟩ := hNv.p.shape
    obtain ⟨P2, n2, q2, rfl⟩ := hNv.k.shape
    obtain ⟨P3, n3, q3, rfl⟩ := hNv.z.shape
    have hn1 : n1 = x.nd.ps.length := hNv.p.lp.len
    have hn2 : n2 = x.nd.ks.length := hNv.k.sl.len
    have htk : l.take (j + 1) = l.take j ++ [x] := by rw [List.take_add_one, hx]; rfl
    obtain ⟨V, u, hV, hu, eV, bV⟩ : ∃ (V : World) (u : Nat), wr.alloc (.cells #[.int .i64 x.rf, .bool x.nd.inn, .bool x.nd.tag, .slice P1 n1 q1, .slice P2 n2 q2, .slice P3 n3 q3, .int .i64 x.wy] stT) = V ∧ wr.heap.size = u ∧ Sev V u x.rf x.nd.inn x.nd.tag (.slice P1 n1 q1) (.slice P2 n2 q2) (.slice P3 n3 q3) x.wy ∧ Below wr.heap.size wr V := ⟨_, _, rfl, rfl, Sev.new _ rfl _ _ _ _ _ _ _, below_new _ _⟩
    obtain ⟨x0, x1, x2, x3, x4, x5, x6⟩ := eV.cells
    have HH2 := Lib.hid (HH.out.below bV)
    have hmr : IntKind.i64.wrap (-1 - (n1 : Int)) = -1 - (n1 : Int) := IntWalk.i64_in _ (by have := (HSM.out x (List.mem_of_getElem? hx)).1; omega)
    cases hin : x.nd.inn with
    | true =>
      have hcn : Go.Proofs.Ytieebiblpcciaaa.cntN x.nd = (n2 : Int) := by unfold Go.Proofs.Ytieebiblpcciaaa.cntN; rw [if_pos hin, hn2]
      obtain ⟨U, hU⟩ : ∃ U, V.heap.size = U := ⟨_, rfl⟩
      obtain ⟨A', m', c', Z, happ, hN⟩ := HH2.out.push (x := x.rf) (y := x.wy) (z := (n2 : Int)) (by rw [flatS_len, List.length_take]; omega) hU
      have HN : Hid (WKI d R w a wk c2 s2 q0 (.slice (some ⟨g, 0, none⟩) m q4) l Y (.slice A' m' c') (flatS (l.take (j + 1))) Z) := by
        show WKI _ _ _ _ _ _ _ _ _ _ _ _ _ _
        rw [htk, flatS_snoc, hcn]; exact hN
      rw [hin] at hV x1 y1
      clear HH HH2 hN hNv hjl eV bV hn1 hn2 hcn htk hin hmr
      go_upto_region 5 with fail
      (try rw [hV])
      clear hV hu y0 y1 y2 y3 y4 y5 y6
      go_wp2_with (at_builtin; refine Lib.wpList_append_run _ rfl _ _ _ _ rfl _ _ rfl rfl _ _ happ ?_)
      go_roundg (gk - 1)
      case measure => omega
      case rel => exact ⟨j + 1, A', m', c', by omega, by go_num, rfl, HN.out⟩
    | false =>
      have hcn : Go.Proofs.Ytieebiblpcciaaa.cntN x.nd = -1 - (n1 : Int) := by unfold Go.Proofs.Ytieebiblpcciaaa.cntN; rw [if_neg (by rw [hin]; simp), hn1]
      obtain ⟨U, hU⟩ : ∃ U, V.heap.size = U := ⟨_, rfl⟩
      obtain ⟨A', m', c', Z, happ, hN⟩ := HH2.out.push (x := x.rf) (y := x.wy) (z := -1 - (n1 : Int)) (by rw [flatS_len, List.length_take]; omega) hU
      have HN : Hid (WKI d R w a wk c2 s2 q0 (.slice (some ⟨g, 0, none⟩) m q4) l Y (.slice A' m' c') (flatS (l.take (j + 1))) Z) := by
        show WKI _ _ _ _ _ _ _ _ _ _ _ _ _ _
        rw [htk, flatS_snoc, hcn]; exact hN
      rw [hin] at hV x1 y1
      clear HH HH2 hN hNv hjl eV bV hn1 hn2 hcn htk hin
      go_upto_region 5 with fail
      (try rw [hV])
      clear hV hu y0 y1 y2 y3 y4 y5 y6
      go_wp2_with (at_builtin; refine Lib.wpList_append_run _ rfl _ _ _ _ rfl _ _ rfl rfl _ _ happ ?_)
      go_roundg (gk - 1)
      case measure => omega
      case rel => exact ⟨j + 1, A', m', c', by omega, by go_num, rfl, HN.out⟩
end
end Go.Proofs.Ytieebiblpcciaaa
