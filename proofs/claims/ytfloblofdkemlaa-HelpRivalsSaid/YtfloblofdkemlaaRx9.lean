/-
  The law HelpRivals: its memory.
-/
import Derived.Test.YtfloblofdkemlaaRival
import Derived.Test.YtfloblofdkemlaaRw9
namespace Go.Proofs.Ytfloblofdkemlaa
open Go.ChangeShapes Go.WideShapes Go.ChangeAt Go.RowKit
set_option linter.unusedVariables false
set_option linter.unusedSimpArgs false
set_option maxRecDepth 20000

/-- Behind rival: the record in a variable of the law's. -/
structure RQ (W w : World) (X : Nat → Prop) (sa : Nat) (nw : Int) (d : Wd) (s : Sig) (A : Option Addr) (m c : Nat) (v : Value) (bx : Nat) (w' : World) : Prop where
  mb : MB W (fun b => X b ∨ ownX W (.slice A m c) b ∨ b = bx) d 0 0 h0 o0 { s with rs := s.rs ++ [⟨rR sa nw, 1, false⟩] } w'
  kx : ∀ b, X b → w'.heap[b]? = w.heap[b]?
  row : Row rfT 0 w' (.slice A m c) ((lstR sa 5).map rfN)
  six : Six w' bx (.slice A m c) v 1 0 (odR sa 5) nw
  own : ∀ b, (Value.slice A m c).ownBlock = some b → W.heap.size ≤ b
  ob : W.heap.size ≤ bx
theorem put6_off (u1 : World) (R : Nat) (vA vB : Value) (k y o n : Int) (b : Nat) (e : b ≠ R) : (put6 u1 R vA vB k y o n).heap[b]? = u1.heap[b]? := by
  show (World.setCell _ ⟨R, 5, none⟩ _).heap[b]? = _
  rw [heap_setCell_other _ ⟨R, 5, none⟩ b _ e, heap_setCell_other _ ⟨R, 4, none⟩ b _ e, heap_setCell_other _ ⟨R, 3, none⟩ b _ e, heap_setCell_other _ ⟨R, 2, none⟩ b _ e, heap_setCell_other _ ⟨R, 1, none⟩ b _ e, heap_setCell_other _ ⟨R, 0, none⟩ b _ e]
section
variable {W w u1 : World} {X : Nat → Prop} {sa : Nat} {nw : Int} {d : Wd} {s : Sig} {A : Option Addr} {m c : Nat} {v : Value}
/-- The variable is made behind the call. -/
theorem rq_a (hmb : MB W (fun b => X b ∨ ownX W (.slice A m c) b) d 0 0 h0 o0 { s with rs := s.rs ++ [⟨rR sa nw, 1, false⟩] } u1) (hk : ∀ b, X b → u1.heap[b]? = w.heap[b]?) (hrow : Row rfT 0 u1 (.slice A m c) ((lstR sa 5).map rfN)) (hown : ∀ b, (Value.slice A m c).ownBlock = some b → W.heap.size ≤ b ∧ ¬ X b) :
    ∃ (u2 : World) (bx : Nat), u1.alloc (.cells #[.slice none 0 0, .slice none 0 0, .int .i64 0, .int .i64 0, .int .i64 0, .int .i64 0] 55) = u2 ∧ u1.heap.size = bx ∧ Six u2 bx (.slice none 0 0) (.slice none 0 0) 0 0 0 0 ∧ RQ W w X sa nw d s A m c v bx (put6 u2 bx (.slice A m c) v 1 0 (odR sa 5) nw) := by
  have b3 : Below u1.heap.size u1 (put6 (u1.alloc (.cells #[.slice none 0 0, .slice none 0 0, .int .i64 0, .int .i64 0, .int .i64 0, .int .i64 0] 55)) u1.heap.size (.slice A m c) v 1 0 (odR sa 5) nw) := below_put6 (below_new _ _) (Nat.le_refl _)
  have hlt := hmb.lt
  have h6 := Six.new u1 (b := u1.heap.size) rfl (.slice none 0 0) (.slice none 0 0) 0 0 0 0
  refine ⟨_, _, rfl, rfl, h6, hmb.more b3 fun b e => ?_, fun b e => (b3.block b (hlt b (.inl e))).trans (hk b e), own_at hrow fun b e => b3.block b (hlt b (.inr ⟨e, (hown b e).1⟩)), h6.put, fun b e => (hown b e).1, hmb.bel.size⟩
  rcases e with e | e | e
  · exact .inl (.inl e)
  · exact .inl (.inr e)
  · exact .inr ⟨by omega, by subst e; simp⟩
/-- The variable is made ahead of the call. -/
theorem rq_b {w1 : World} {bx : Nat} (hmb : MB W (fun b => (X b ∨ b = bx) ∨ ownX W (.slice A m c) b) d 0 0 h0 o0 { s with rs := s.rs ++ [⟨rR sa nw, 1, false⟩] } u1) (hk : ∀ b, (X b ∨ b = bx) → u1.heap[b]? = w1.heap[b]?) (hrow : Row rfT 0 u1 (.slice A m c) ((lstR sa 5).map rfN)) (hown : ∀ b, (Value.slice A m c).ownBlock = some b → W.heap.size ≤ b ∧ ¬ (X b ∨ b = bx))
    (h6 : Six w1 bx (.slice none 0 0) (.slice none 0 0) 0 0 0 0) (hb : W.heap.size ≤ bx) (hX : ∀ b, X b → b ≠ bx ∧ w1.heap[b]? = w.heap[b]?) :
    Six u1 bx (.slice none 0 0) (.slice none 0 0) 0 0 0 0 ∧ RQ W w X sa nw d s A m c v bx (put6 u1 bx (.slice A m c) v 1 0 (odR sa 5) nw) := by
  have h6' : Six u1 bx (.slice none 0 0) (.slice none 0 0) 0 0 0 0 := (hk bx (.inr rfl)).trans h6
  have r1 := fun b e => put6_off u1 bx (.slice A m c) v 1 0 (odR sa 5) nw b e
  refine ⟨h6', ?_, fun b e => (r1 b (hX b e).1).trans ((hk b (.inl e)).trans (hX b e).2), own_at hrow fun b e => r1 b fun e2 => (hown b e).2 (.inr e2), h6'.put, fun b e => (hown b e).1, hb⟩
  refine ((((((hmb.set (.inl (.inr rfl)) hb).set (.inl (.inr rfl)) hb).set (.inl (.inr rfl)) hb).set (.inl (.inr rfl)) hb).set (.inl (.inr rfl)) hb).set (.inl (.inr rfl)) hb).mono fun b e => ?_
  rcases e with e | e | e
  · exact .inl (.inl e)
  · exact .inr e
  · exact .inl (.inr e)
end
/-- The law's blocks: its nodes' slice v, the records' rows and variables, its threads' list. -/
def XR (W : World) (v vx vy T : Value) (bx bz : Nat) (b : Nat) : Prop := ((ownX W v b ∨ ownX W vx b ∨ b = bx) ∨ ownX W vy b ∨ b = bz) ∨ ownX W T b
structure RM (W : World) (v vx vy vI vJ T : Value) (bx bz : Nat) (ox oy : Int) (lx ly : List Int) (d : Wd) (m n t : Nat) (hs : Nat → Hp) (os : Nat → Ts) (s : Sig) (w : World) : Prop where
  mb : MB W (XR W v vx vy T bx bz) d n t hs os s w
  row : Row rfT 0 w v (refN 5)
  rx : Row rfT 0 w vx lx
  ry : Row rfT 0 w vy ly
  sx : Six w bx vx vI 1 0 ox 98
  sy : Six w bz vy vJ 1 0 oy 99
  lst : w.ownsRow 0 thP 1 T m (ptrs hs m)
  ov : ∀ b, v.ownBlock = some b → W.heap.size ≤ b
  hx : ∀ b, vx.ownBlock = some b → W.heap.size ≤ b
  hy : ∀ b, vy.ownBlock = some b → W.heap.size ≤ b
  hT : ∀ b, T.ownBlock = some b → W.heap.size ≤ b
section
variable {W : World} {v vx vy vI vJ T : Value} {bx bz m n n' t t' : Nat} {ox oy : Int} {lx ly : List Int} {d : Wd} {hs hs' : Nat → Hp} {os os' : Nat → Ts} {s s' : Sig} {w w' : World}
theorem RM.kp (h : RM W v vx vy vI vJ T bx bz ox oy lx ly d m n t hs os s w) (hm : MB W (XR W v vx vy T bx bz) d n' t' hs' os' s' w') (hk : Kp (RX W (XR W v vx vy T bx bz)) w w') (hp : ptrs hs' m = ptrs hs m) : RM W v vx vy vI vJ T bx bz ox oy lx ly d m n' t' hs' os' s' w' :=
  ⟨hm, own_at h.row fun b e => hk.block b (.inr (.inl (.inl (.inl ⟨e, h.ov b e⟩)))), own_at h.rx fun b e => hk.block b (.inr (.inl (.inl (.inr (.inl ⟨e, h.hx b e⟩))))), own_at h.ry fun b e => hk.block b (.inr (.inl (.inr (.inl ⟨e, h.hy b e⟩)))),
    h.sx.kp hk (.inr (.inl (.inl (.inr (.inr rfl))))), h.sy.kp hk (.inr (.inl (.inr (.inr rfl)))), by rw [hp]; exact own_at h.lst fun b e => hk.block b (.inr (.inr ⟨e, h.hT b e⟩)), h.ov, h.hx, h.hy, h.hT⟩
theorem RM.below (h : RM W v vx vy vI vJ T bx bz ox oy lx ly d m n t hs os s w) (hb : Below w.heap.size w w') : RM W v vx vy vI vJ T bx bz ox oy lx ly d m n t hs os s w' := h.kp (h.mb.below hb) (h.mb.kb hb) rfl
/-- Behind both. -/
theorem RM.new {w0 w1 w2 : World} {sa sb : Nat} {A B : Option Addr} {mA cA mB cB : Nat} {vI vJ : Value} (hv : Row rfT 0 w0 v (refN 5)) (ho : ∀ b, v.ownBlock = some b → W.heap.size ≤ b)
    (h1 : RQ W w0 (ownX W v) sa 98 d s A mA cA vI bx w1) (h2 : RQ W w1 (fun b => ownX W v b ∨ ownX W (.slice A mA cA) b ∨ b = bx) sb 99 d { s with rs := s.rs ++ [⟨rR sa 98, 1, false⟩] } B mB cB vJ bz w2) :
    RM W v (.slice A mA cA) (.slice B mB cB) vI vJ (.slice none 0 0) bx bz (odR sa 5) (odR sb 5) ((lstR sa 5).map rfN) ((lstR sb 5).map rfN) d 0 0 0 h0 o0 { s with rs := s.rs ++ [⟨rR sa 98, 1, false⟩] ++ [⟨rR sb 99, 1, false⟩] } w2 := by
  refine ⟨h2.mb.mono fun b e => ?_, own_at hv fun b e => (h2.kx b (.inl ⟨e, ho b e⟩)).trans (h1.kx b ⟨e, ho b e⟩), own_at h1.row fun b e => h2.kx b (.inr (.inl ⟨e, h1.own b e⟩)), h2.row, (h2.kx bx (.inr (.inr rfl))).trans h1.six, h2.six, World.ownsRow_nil _ _ _ _, ho, h1.own, h2.own, fun b e => (by cases e)⟩
  rcases e with (e | e) | e
  · exact .inl e
  · exact .inr e
  · exact absurd e.1 (by intro e; cases e)
/-- The list of the first three. -/
theorem RM.three (h : RM W v vx vy vI vJ (.slice none 0 0) bx bz ox oy lx ly d 0 3 t hs os s w) :
    RM W v vx vy vI vJ (.slice (some ⟨w.heap.size, 0, none⟩) 3 3) bx bz ox oy lx ly d 3 3 t hs os s (w.alloc (.cells #[ptr (hs 0).a, ptr (hs 1).a, ptr (hs 2).a] thP)) := by
  have hb := below_new w (.cells #[ptr (hs 0).a, ptr (hs 1).a, ptr (hs 2).a] thP)
  have hlt := h.mb.lt
  have k := fun b e => hb.block b (hlt b e)
  refine ⟨h.mb.more hb fun b e => ?_, own_at h.row fun b e => k b (.inl (.inl (.inl ⟨e, h.ov b e⟩))), own_at h.rx fun b e => k b (.inl (.inl (.inr (.inl ⟨e, h.hx b e⟩)))), own_at h.ry fun b e => k b (.inl (.inr (.inl ⟨e, h.hy b e⟩))), h.sx.below hb, h.sy.below hb, ?_, h.ov, h.hx, h.hy, fun b e => ?_⟩
  · rcases e with e | e
    · exact .inl (.inl e)
    · refine .inr ?_
      obtain ⟨e, -⟩ := e
      injection e with e
      subst e
      exact ⟨Nat.le_refl _, by simp⟩
  · exact ⟨rfl, .inr ⟨w.heap.size, 3, #[ptr (hs 0).a, ptr (hs 1).a, ptr (hs 2).a], rfl, Nat.zero_le _, heap_alloc_new w _, Nat.le_refl _, by decide, rfl, rfl⟩⟩
  · injection e with e
    subst e
    exact h.mb.bel.size
/-- A helper more, and put into the list. -/
theorem RM.push {x : Hp} (h : RM W v vx vy vI vJ T bx bz ox oy lx ly d n n t hs os s w) (hm : MB W (XR W v vx vy T bx bz) d (n + 1) t (upd hs n x) os' s' w') (hk : Kp (RX W (XR W v vx vy T bx bz)) w w') (hn : n ≤ 100) :
    ∃ A' c' Z, (Builtin.append_ #[76, 76] 76 #[T, .slice (some ⟨w'.heap.size, 0, none⟩) 1 1]).run Try.prog (w'.alloc (.cells #[ptr x.a] 65)) = .ok (.slice A' (n + 1) c') Z ∧ RM W v vx vy vI vJ (.slice A' (n + 1) c') bx bz ox oy lx ly d (n + 1) (n + 1) t (upd hs n x) os' s' Z := by
  have hb := below_new w' (.cells #[ptr x.a] 65)
  have h1 := hm.below hb
  have hlt := h1.lt
  have kW : ∀ b, XR W v vx vy T bx bz b → (w'.alloc (.cells #[ptr x.a] 65)).heap[b]? = w.heap[b]? := fun b e => (hb.block b (hm.lt b e)).trans (hk.block b (.inr e))
  have xv : ∀ b, v.ownBlock = some b → XR W v vx vy T bx bz b := fun b e => .inl (.inl (.inl ⟨e, h.ov b e⟩))
  have xx : ∀ b, vx.ownBlock = some b → XR W v vx vy T bx bz b := fun b e => .inl (.inl (.inr (.inl ⟨e, h.hx b e⟩)))
  have xy : ∀ b, vy.ownBlock = some b → XR W v vx vy T bx bz b := fun b e => .inl (.inr (.inl ⟨e, h.hy b e⟩))
  have xbx : XR W v vx vy T bx bz bx := .inl (.inl (.inr (.inr rfl)))
  have xbz : XR W v vx vy T bx bz bz := .inl (.inr (.inr rfl))
  have lst : (w'.alloc (.cells #[ptr x.a] 65)).ownsRow 0 thP 1 T n (ptrs hs n) := own_at h.lst fun b e => kW b (.inr ⟨e, h.hT b e⟩)
  have row : Row rfT 0 (w'.alloc (.cells #[ptr x.a] 65)) v (refN 5) := own_at h.row fun b e => kW b (xv b e)
  have rx : Row rfT 0 (w'.alloc (.cells #[ptr x.a] 65)) vx lx := own_at h.rx fun b e => kW b (xx b e)
  have ry : Row rfT 0 (w'.alloc (.cells #[ptr x.a] 65)) vy ly := own_at h.ry fun b e => kW b (xy b e)
  have sx : Six (w'.alloc (.cells #[ptr x.a] 65)) bx vx vI 1 0 ox 98 := (kW bx xbx).trans h.sx
  have sy : Six (w'.alloc (.cells #[ptr x.a] 65)) bz vy vJ 1 0 oy 99 := (kW bz xbz).trans h.sy
  obtain ⟨A', c', Z, q1, q2, q3, q4⟩ := run_pushPt (u := ptr x.a) lst (c_new rfl rfl) rfl (by omega)
  have tyT : ∀ b, T.ownBlock = some b → Ty (w'.alloc (.cells #[ptr x.a] 65)) b thP := fun b e => own_ty lst e
  have ne : ∀ b ty, Ty (w'.alloc (.cells #[ptr x.a] 65)) b ty → ty ≠ thP → T.ownBlock ≠ some b := fun b ty h1 h2 e => h2 (h1.one (tyT b e))
  have keep : ∀ b ty, Ty (w'.alloc (.cells #[ptr x.a] 65)) b ty → ty ≠ thP → XR W v vx vy T bx bz b → Z.heap[b]? = (w'.alloc (.cells #[ptr x.a] 65)).heap[b]? := fun b ty h1 h2 h3 => q3.block b (hlt b h3) fun e => ne b ty h1 h2 e.symm
  have hl : ∀ b, (Value.slice A' (n + 1) c').ownBlock = some b → b < Z.heap.size := fun b e => (World.ownsRow.lt q2 b e).2
  refine ⟨A', c', Z, q1, h1.kept q3 (fun b e => ⟨.inr ⟨e, h.hT b e⟩, h.hT b e⟩) ?_, own_at row fun b e => keep b _ (own_ty row e) (by decide) (xv b e), own_at rx fun b e => keep b _ (own_ty rx e) (by decide) (xx b e), own_at ry fun b e => keep b _ (own_ty ry e) (by decide) (xy b e), (keep bx _ ⟨_, sx⟩ (by decide) xbx).trans sx, (keep bz _ ⟨_, sy⟩ (by decide) xbz).trans sy, by rw [ptrs_snoc]; exact q2, h.ov, h.hx, h.hy, fun b e => ?_⟩
  · rintro b (e | e)
    · exact .inl (.inl e)
    · rcases q4 b e.1 with e2 | e2
      · exact .inl (.inr ⟨e2, e.2⟩)
      · exact .inr ⟨e2, hl b e.1⟩
  · rcases q4 b e with e2 | e2
    · exact h.hT b e2
    · exact Nat.le_trans h1.bel.size e2
/-- The first node of a row. -/
theorem row_first {w : World} {u : Value} {z : Int} {zs : List Int} (h : Row rfT 0 w u (z :: zs)) : ∃ b cc, u = .slice (some ⟨b, 0, none⟩) (zs.length + 1) cc ∧ w.cell? ⟨b, 0, none⟩ = some (.int .i64 z) := by
  obtain ⟨b, cc, e, -, hc⟩ := RowX.at_ (X := fun _ => True) (i := 0) (z := z) ⟨h, fun _ _ => trivial⟩ rfl
  exact ⟨b, cc, e, hc⟩
end
/-- The two records, as plain data. -/
def qR (a b : Nat) : Rv := ⟨fun c => if c = 0 then lstR a 5 else lstR b 5, fun c => 98 + (c : Int)⟩
theorem lstR_mem {sa j i : Nat} : i ∈ lstR sa j ↔ i < j ∧ sa / 2 ^ i % 2 = 1 := by
  unfold lstR bitR
  rw [List.mem_filter, List.mem_range, decide_eq_true_iff]
theorem lstR_up (sa : Nat) : (lstR sa 5).Pairwise (· < ·) := List.Pairwise.filter _ List.pairwise_lt_range
theorem lstR_ne {sa : Nat} (h : sa < 32) (h0 : sa ≠ 0) : lstR sa 5 ≠ [] := by
  intro e
  have hn : ∀ i, i < 5 → sa / 2 ^ i % 2 = 0 := fun i hi => by
    have : ¬ i ∈ lstR sa 5 := by rw [e]; simp
    rw [lstR_mem] at this
    omega
  have h1 := hn 0 (by omega)
  have h2 := hn 1 (by omega)
  have h3 := hn 2 (by omega)
  have h4 := hn 3 (by omega)
  have h5 := hn 4 (by omega)
  simp only [Nat.pow_zero, Nat.pow_one] at h1 h2
  have p2 : 2 ^ 2 = 4 := rfl
  have p3 : 2 ^ 3 = 8 := rfl
  have p4 : 2 ^ 4 = 16 := rfl
  rw [p2] at h3
  rw [p3] at h4
  rw [p4] at h5
  omega
theorem qR_ok {a b : Nat} (ha : a < 32) (hb : b < 32) (ha0 : a ≠ 0) (hb0 : b ≠ 0) : RvOk (qR a b) := by
  refine ⟨fun c hc => ?_, fun c hc i hi => ?_, fun c hc => ?_, fun c hc => rfl⟩
  · show (if c = 0 then lstR a 5 else lstR b 5) ≠ []
    split
    · exact lstR_ne ha ha0
    · exact lstR_ne hb hb0
  · have hi : i ∈ (if c = 0 then lstR a 5 else lstR b 5) := hi
    split at hi
    · exact (lstR_mem.1 hi).1
    · exact (lstR_mem.1 hi).1
  · show List.Pairwise _ (if c = 0 then lstR a 5 else lstR b 5)
    split
    · exact lstR_up a
    · exact lstR_up b
theorem od_eq {sa : Nat} (h : lstR sa 5 ≠ []) : odR sa 5 = 200 + 10 * (((lstR sa 5).headD 0 : Nat) : Int) := by
  unfold odR
  cases hl : lstR sa 5 with
  | nil => exact absurd hl h
  | cons i l => rfl
theorem qR_r {a b : Nat} (ha : a < 32) (hb : b < 32) (ha0 : a ≠ 0) (hb0 : b ≠ 0) : (qR a b).r 0 = rR a 98 ∧ (qR a b).r 1 = rR b 99 := by
  constructor
  · show rcN (lstR a 5) (List.replicate (lstR a 5).length 0) 1 0 (200 + 10 * (((lstR a 5).headD 0 : Nat) : Int)) (98 + ((0 : Nat) : Int)) = rcN (lstR a 5) (List.replicate (lstR a 5).length 0) 1 0 (odR a 5) 98
    rw [od_eq (lstR_ne ha ha0)]; rfl
  · show rcN (lstR b 5) (List.replicate (lstR b 5).length 0) 1 0 (200 + 10 * (((lstR b 5).headD 0 : Nat) : Int)) (98 + ((1 : Nat) : Int)) = rcN (lstR b 5) (List.replicate (lstR b 5).length 0) 1 0 (odR b 5) 99
    rw [od_eq (lstR_ne hb hb0)]; rfl
end Go.Proofs.Ytfloblofdkemlaa
