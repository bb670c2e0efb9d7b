/-
  The law HelpRivals: how it ends.
-/
import Derived.Test.YtfloblofdkemlaaRx9
import Derived.Test.YtfloblofdkemlaaMx9
namespace Go.Proofs.Ytfloblofdkemlaa
open Go.ChangeShapes Go.WideShapes Go.ChangeAt Go.RowKit
set_option linter.unusedVariables false
set_option linter.unusedSimpArgs false
set_option maxRecDepth 20000

/-- At the end. -/
structure RE (W : World) (v vx vy vI vJ T : Value) (bx bz : Nat) (ox oy : Int) (lx ly : List Int) (d : Wd) (N t : Nat) (hs : Nat → Hp) (os : Nat → Ts) (q : Rv) (f : Nat → Ns) (st : Nat → Int) (al : Nat → Bool) (w : World) : Prop where
  m : RM W v vx vy vI vJ T bx bz ox oy lx ly d N N t hs os (sR q f st al) w
  o : ∀ i, i < N → os i = .fin (decide (st (i % 2) = 2))
  e : ∀ i, i < 5 → (f i).w0 = if st 1 = 2 ∧ (q.l 1)[0]? = some i then 99 else if st 0 = 2 ∧ (q.l 0)[0]? = some i then 98 else 200 + 10 * (i : Int)
  i64 : ∀ i, i < 5 → in64 (f i).inf
section
variable {W : World} {v vx vy vI vJ T : Value} {bx bz N t t' : Nat} {ox oy : Int} {lx ly : List Int} {d : Wd} {hs : Nat → Hp} {os : Nat → Ts} {q : Rv} {f : Nat → Ns} {st : Nat → Int} {al : Nat → Bool} {s : Sig} {w w' : World}
theorem RE.of (h : RM W v vx vy vI vJ T bx bz ox oy lx ly d N N t hs os s w) (hX : MXF W (XR W v vx vy T bx bz) d N t' hs (IR q N) w w' N) (hok : RvOk q) (hN : 2 ≤ N) :
    ∃ os f st al, RE W v vx vy vI vJ T bx bz ox oy lx ly d N t' hs os q f st al w' ∧ (∀ c, c < 2 → st c = 2 ∨ st c = 0) ∧ ((∃ i, i ∈ q.l 0 ∧ i ∈ q.l 1) → (st 0 = 2 ↔ ¬ st 1 = 2)) ∧ ((¬ ∃ i, i ∈ q.l 0 ∧ i ∈ q.l 1) → st 0 = 2 ∧ st 1 = 2) := by
  obtain ⟨os', s', hm, hd⟩ := hX
  obtain ⟨T', f, st, al, rfl, h1, h2⟩ := hm.i
  have key : ∀ i, i < N → os' i = .fin (decide (st (i % 2) = 2)) := fun i hi => by
    have hdi := hd i hi
    have hpi := h2 i hi
    cases ho : os' i with
    | run u => rw [ho] at hdi; cases hdi
    | fin b =>
      rw [ho] at hpi
      have hp : PR9 q (i % 2) T' f st al (.ret b) := hpi
      rcases pr_ret hp hok (Nat.mod_lt _ (by omega)) with ⟨e1, _, _, e4⟩ | ⟨e1, _, e3⟩
      · rw [e1, e4]; rfl
      · rw [e1, e3]; rfl
  have pc : ∀ c, c < 2 → PR9 q c T' f st al (.ret (decide (st c = 2))) := fun c hc => by
    have h3 := h2 c (by omega)
    rw [key c (by omega), Nat.mod_eq_of_lt hc] at h3
    exact h3
  obtain ⟨k1, k2, k3, k4⟩ := rv_end (b := fun c => decide (st c = 2)) h1 hok pc
  refine ⟨os', f, st, al, ⟨h.kp hm.mb hm.kp rfl, key, fun i hi => ?_, h1.in64⟩, fun c hc => ?_, fun hc => ?_, fun hc => ?_⟩
  · rw [k4 i hi]
    simp only [decide_eq_true_iff]
  · by_cases e : st c = 2
    · exact .inl e
    · right
      have := k1 c hc
      rw [if_neg (by simpa using e)] at this
      exact this
  · have := k2 hc
    by_cases e : st 1 = 2
    · rw [decide_eq_true e] at this
      exact ⟨fun e2 => absurd e2 (of_decide_eq_false this), fun e2 => absurd e e2⟩
    · rw [decide_eq_false e] at this
      exact ⟨fun _ => e, fun _ => of_decide_eq_true this⟩
  · have := k3 hc
    exact ⟨of_decide_eq_true this.1, of_decide_eq_true this.2⟩
/-- The program's yes. -/
theorem RE.yes {i : Nat} (h : RE W v vx vy vI vJ T bx bz ox oy lx ly d N t hs os q f st al w) (hi : i < N) :
    Calls Try.prog 27 #[ptr (hs i).a] w fun e w2 => e = .returned (.bool (decide (st (i % 2) = 2))) ∧ RE W v vx vy vI vJ T bx bz ox oy lx ly d N t hs os q f st al w2 := by
  refine (h.m.mb.me.yes hi (h.o i hi)).mono ?_
  rintro e w2 ⟨rfl, hM, hb⟩
  exact ⟨rfl, h.m.kp ⟨hM, h.m.mb.bel.trans (hb.mono h.m.mb.bel.size)⟩ (h.m.mb.kb hb) rfl, h.o, h.e, h.i64⟩
theorem RE.below (h : RE W v vx vy vI vJ T bx bz ox oy lx ly d N t hs os q f st al w) (hb : Below w.heap.size w w') : RE W v vx vy vI vJ T bx bz ox oy lx ly d N t hs os q f st al w' := ⟨h.m.below hb, h.o, h.e, h.i64⟩
/-- A record's state is read. -/
theorem RE.state {c : Nat} (h : RE W v vx vy vI vJ T bx bz ox oy lx ly d N t hs os q f st al w) (hc : c < 2) : Reads 28 #[ptr d.R, .int .i64 (Rv.n c)] w (.int .u8 (st c)) :=
  h.m.mb.reads fun w FW hW => nxW_stateR hW (by simp [sR, sN]) (rc_two q hc)
/-- A node's way is read. -/
theorem RE.way {i : Nat} (h : RE W v vx vy vI vJ T bx bz ox oy lx ly d N t hs os q f st al w) (hi : i < 5) : Calls Try.prog 13 #[ptr d.A, .int .i64 (rfN i), .int .i64 0] w fun e w' => e = .returned (.int .i64 (f i).w0) ∧ w = w' := by
  obtain ⟨FW, hW⟩ := h.m.mb.ws
  have hI : Inv 4 0 (sR q f st al) := inv_sN (by omega) (by omega) (by omega) h.i64 (by simp)
  exact nxW_way (k := 0) hW hI.fit.ok (arN_hit (f := f) (k := 5) (i := i) hi (by omega))
/-- The list's threads. -/
theorem RM.at_ {T : Option Addr} {tc : Nat} {m : Nat} (h : RM W v vx vy vI vJ (.slice T m tc) bx bz ox oy lx ly d m N t hs os s w) (hm : 0 < m) : ∃ g, T = some ⟨g, 0, none⟩ ∧ ∀ i, i < m → w.cell? ⟨g, i, none⟩ = some (ptr (hs i).a) := by
  obtain ⟨g, rfl, -, -⟩ := row_cell h.lst (ptrs_at hm) hm
  refine ⟨g, rfl, fun i hi => ?_⟩
  obtain ⟨g', e, -, hc⟩ := row_cell h.lst (ptrs_at hi) hi
  injection e with e
  injection e with e
  subst e
  exact hc
theorem RM.cell {g tc m i : Nat} (h : RM W v vx vy vI vJ (.slice (some ⟨g, 0, none⟩) m tc) bx bz ox oy lx ly d m N t hs os s w) (hi : i < m) : w.cell? ⟨g, i, none⟩ = some (ptr (hs i).a) := by
  obtain ⟨g', e, hc⟩ := h.at_ (by omega)
  injection e with e
  injection e with e
  subst e
  exact hc i hi
theorem RM.node {i : Nat} {A : Option Addr} {c m : Nat} (h : RM W (.slice A 5 c) vx vy vI vJ T bx bz ox oy lx ly d m N t hs os s w) (hi : i < 5) : ∃ b, A = some ⟨b, 0, none⟩ ∧ w.cell? ⟨b, i, none⟩ = some (.int .i64 (rfN i)) := by
  have hr : RowX (fun _ => True) rfT w (.slice A 5 c) (refN 5) := ⟨h.row, fun b e => trivial⟩
  obtain ⟨b, cc, e1, -, e2⟩ := hr.at_ (refN_at hi)
  injection e1 with e3 e4 e5
  exact ⟨b, e3, e2⟩
/-- x's first node. -/
theorem RE.first0 {i0 : Nat} {l0 : List Nat} (h : RE W v vx vy vI vJ T bx bz ox oy ((i0 :: l0).map rfN) ly d N t hs os q f st al w) : ∃ b m cc, 0 < m ∧ vx = .slice (some ⟨b, 0, none⟩) m cc ∧ w.cell? ⟨b, 0, none⟩ = some (.int .i64 (rfN i0)) := by
  obtain ⟨b, cc, e1, e2⟩ := row_first (z := rfN i0) (zs := l0.map rfN) h.m.rx
  rw [List.length_map] at e1
  exact ⟨b, _, cc, by omega, e1, e2⟩
theorem RE.first1 {i0 : Nat} {l0 : List Nat} (h : RE W v vx vy vI vJ T bx bz ox oy lx ((i0 :: l0).map rfN) d N t hs os q f st al w) : ∃ b m cc, 0 < m ∧ vy = .slice (some ⟨b, 0, none⟩) m cc ∧ w.cell? ⟨b, 0, none⟩ = some (.int .i64 (rfN i0)) := by
  obtain ⟨b, cc, e1, e2⟩ := row_first (z := rfN i0) (zs := l0.map rfN) h.m.ry
  rw [List.length_map] at e1
  exact ⟨b, _, cc, by omega, e1, e2⟩
/-- One function asked of two numbers. -/
theorem reads_two {F : Nat} {a : Value} {w : World} {v1 v2 : Int} (h1 : Reads F #[a, .int .i64 1] w (.int .u8 v1)) (h2 : Reads F #[a, .int .i64 2] w (.int .u8 v2)) :
    ∃ fS : Int → Int, fS 1 = v1 ∧ fS 2 = v2 ∧ ∀ k : Int, (k = 1 ∨ k = 2) → Reads F #[a, .int .i64 k] w (.int .u8 (fS k)) := by
  refine ⟨fun k => if k = 1 then v1 else v2, rfl, rfl, fun k hk => ?_⟩
  rcases hk with rfl | rfl
  · exact h1
  · exact h2
end
theorem rfN_inj {i j : Nat} (hi : i < 5) (hj : j < 5) (h : rfN i = rfN j) : i = j := by
  have h1 : pl (rfN i) = pl (rfN j) := by rw [h]
  rw [pl_mk, pl_mk] at h1
  omega
theorem lstR_head {sa : Nat} (h : sa < 32) (h0 : sa ≠ 0) : ∃ i l, lstR sa 5 = i :: l ∧ i < 5 := by
  cases hl : lstR sa 5 with
  | nil => exact absurd hl (lstR_ne h h0)
  | cons i l => exact ⟨i, l, rfl, (lstR_mem.1 (by rw [hl]; exact List.mem_cons_self)).1⟩
end Go.Proofs.Ytfloblofdkemlaa
