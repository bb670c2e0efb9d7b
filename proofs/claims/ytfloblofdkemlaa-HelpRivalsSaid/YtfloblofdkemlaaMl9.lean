/-
  The law HelpMany: its memory.
-/
import Derived.Test.YtfloblofdkemlaaMn9
import Derived.Test.YtfloblofdkemlaaMx9
import Derived.Test.YtfloblofdkemlaaHAgain
namespace Go.Proofs.Ytfloblofdkemlaa
open Go.ChangeShapes Go.WideShapes Go.ChangeAt Go.RowKit
set_option linter.unusedVariables false
set_option linter.unusedSimpArgs false
set_option maxRecDepth 20000

/-- The law's blocks: its nodes' slice v, its threads' slice T, the infos at p, the record at q. -/
def XM (W : World) (v T : Value) (p q : Nat) (b : Nat) : Prop := ownX W v b ∨ ownX W T b ∨ b = p ∨ b = q
structure HM (W : World) (v T : Value) (p q : Nat) (ke : Int) (d : Wd) (k n t : Nat) (hs : Nat → Hp) (os : Nat → Ts) (s : Sig) (w : World) : Prop where
  mb : MB W (XM W v T p q) d n t hs os s w
  row : Row 30 0 w v (refN k)
  six : Six w q v (.slice (some ⟨p, 0, none⟩) k k) ke 1 201 99
  zer : w.heap[p]? = some (.cells (zers k) 2 (0, 0))
  lst : w.ownsRow 0 thP 1 T n (ptrs hs n)
  ov : ∀ b, v.ownBlock = some b → W.heap.size ≤ b
  oT : ∀ b, T.ownBlock = some b → W.heap.size ≤ b
  pq : W.heap.size ≤ p ∧ W.heap.size ≤ q
section
variable {W : World} {v T : Value} {p q k n t t' : Nat} {ke : Int} {d : Wd} {hs hs' : Nat → Hp} {os os' : Nat → Ts} {s s' : Sig} {w w' : World}
theorem HM.kp (h : HM W v T p q ke d k n t hs os s w) (hm : MB W (XM W v T p q) d n t' hs os' s' w') (hk : Kp (RX W (XM W v T p q)) w w') : HM W v T p q ke d k n t' hs os' s' w' :=
  ⟨hm, own_at h.row fun b e => hk.block b (.inr (.inl ⟨e, h.ov b e⟩)), h.six.kp hk (.inr (.inr (.inr (.inr rfl)))), (hk.block p (.inr (.inr (.inr (.inl rfl))))).trans h.zer, own_at h.lst fun b e => hk.block b (.inr (.inr (.inl ⟨e, h.oT b e⟩))), h.ov, h.oT, h.pq⟩
theorem HM.below (h : HM W v T p q ke d k n t hs os s w) (hb : Below w.heap.size w w') : HM W v T p q ke d k n t hs os s w' := h.kp (h.mb.below hb) (h.mb.kb hb)
theorem HM.nx {F : Nat} {args : Array Value} {a : Value} (h : HM W v T p q ke d k n t hs os s w) (hc : ∀ FW, WS d FW w s → Calls Try.prog F args w fun e w' => e = .returned a ∧ NxW d FW w s' w') : Calls Try.prog F args w fun e w' => e = .returned a ∧ HM W v T p q ke d k n t hs os s' w' :=
  (h.mb.nxK hc).mono fun e w' hp => ⟨hp.1, h.kp hp.2.1 hp.2.2⟩
theorem HM.at_ {i : Nat} (h : HM W v T p q ke d k n t hs os s w) (hi : i < k) : ∃ b c, v = .slice (some ⟨b, 0, none⟩) k c ∧ w.cell? ⟨b, i, none⟩ = some (.int .i64 (rfN i)) := by
  have hr : RowX (ownX W v) 30 w v (refN k) := ⟨h.row, fun b e => ⟨e, h.ov b e⟩⟩
  obtain ⟨b, c, e1, -, e2⟩ := hr.at_ (refN_at hi)
  rw [refN_len] at e1
  exact ⟨b, c, e1, e2⟩
theorem HM.form (h : HM W v T p q ke d k n t hs os s w) : ∃ A c, v = .slice A k c ∧ Sl w A k c (refN k) := by
  obtain ⟨A, c, e, hs⟩ := h.row.form
  rw [refN_len] at e hs
  exact ⟨A, c, e, hs⟩
/-- A helper started, and put into the list. -/
theorem HM.push {x : Hp} (h : HM W v T p q ke d k n t hs os s w) (hm : MB W (XM W v T p q) d (n + 1) t (upd hs n x) os' s' w') (hk : Kp (RX W (XM W v T p q)) w w') (hn : n ≤ 100) :
    ∃ A' c' Z, (Builtin.append_ #[76, 76] 76 #[T, .slice (some ⟨w'.heap.size, 0, none⟩) 1 1]).run Try.prog (w'.alloc (.cells #[ptr x.a] 65)) = .ok (.slice A' (n + 1) c') Z ∧ HM W v (.slice A' (n + 1) c') p q ke d k (n + 1) t (upd hs n x) os' s' Z := by
  have hb := below_new w' (.cells #[ptr x.a] 65)
  have h1 := hm.below hb
  have hlt := h1.lt
  have kW : ∀ b, XM W v T p q b → (w'.alloc (.cells #[ptr x.a] 65)).heap[b]? = w.heap[b]? := fun b e => (hb.block b (hm.lt b e)).trans (hk.block b (.inr e))
  have lst : (w'.alloc (.cells #[ptr x.a] 65)).ownsRow 0 thP 1 T n (ptrs hs n) := own_at h.lst fun b e => kW b (.inr (.inl ⟨e, h.oT b e⟩))
  have six : Six (w'.alloc (.cells #[ptr x.a] 65)) q v (.slice (some ⟨p, 0, none⟩) k k) ke 1 201 99 := (kW q (.inr (.inr (.inr rfl)))).trans h.six
  have zer : (w'.alloc (.cells #[ptr x.a] 65)).heap[p]? = some (.cells (zers k) 2 (0, 0)) := (kW p (.inr (.inr (.inl rfl)))).trans h.zer
  have row : Row 30 0 (w'.alloc (.cells #[ptr x.a] 65)) v (refN k) := own_at h.row fun b e => kW b (.inl ⟨e, h.ov b e⟩)
  obtain ⟨A', c', Z, q1, q2, q3, q4⟩ := run_pushPt (u := ptr x.a) lst (c_new rfl rfl) rfl (by omega)
  have tyT : ∀ b, T.ownBlock = some b → Ty (w'.alloc (.cells #[ptr x.a] 65)) b thP := fun b e => own_ty lst e
  have ne : ∀ b ty, Ty (w'.alloc (.cells #[ptr x.a] 65)) b ty → ty ≠ thP → T.ownBlock ≠ some b := fun b ty h1 h2 e => h2 (h1.one (tyT b e))
  have keep : ∀ b ty, Ty (w'.alloc (.cells #[ptr x.a] 65)) b ty → ty ≠ thP → XM W v T p q b → Z.heap[b]? = (w'.alloc (.cells #[ptr x.a] 65)).heap[b]? := fun b ty h1 h2 h3 => q3.block b (hlt b h3) fun e => ne b ty h1 h2 e.symm
  have hl : ∀ b, (Value.slice A' (n + 1) c').ownBlock = some b → b < Z.heap.size := fun b e => (World.ownsRow.lt q2 b e).2
  refine ⟨A', c', Z, q1, h1.kept q3 (fun b e => ⟨.inr (.inl ⟨e, h.oT b e⟩), h.oT b e⟩) ?_, own_at row fun b e => keep b _ (own_ty row e) (by decide) (.inl ⟨e, h.ov b e⟩), (keep q _ ⟨_, six⟩ (by decide) (.inr (.inr (.inr rfl)))).trans six, (keep p _ ⟨_, zer⟩ (by decide) (.inr (.inr (.inl rfl)))).trans zer, by rw [ptrs_snoc]; exact q2, h.ov, fun b e => ?_, h.pq⟩
  · rintro b (e | e | e | e)
    · exact .inl (.inl e)
    · rcases q4 b e.1 with e2 | e2
      · exact .inl (.inr (.inl ⟨e2, e.2⟩))
      · exact .inr ⟨e2, hl b e.1⟩
    · exact .inl (.inr (.inr (.inl e)))
    · exact .inl (.inr (.inr (.inr e)))
  · rcases q4 b e with e2 | e2
    · exact h.oT b e2
    · exact Nat.le_trans h1.bel.size e2
/-- The first: the record and its infos are made. -/
theorem HM.new {A : Option Addr} {c : Nat} (h : AG W (.slice A k c) d k s w) (ho : ∀ b, (Value.slice A k c).ownBlock = some b → W.heap.size ≤ b) (ke : Int) :
    ∃ (Y Y2 : World) (p q : Nat), w.alloc (.cells (zers k) 2) = Y ∧ w.heap.size = p ∧ Y.alloc (.cells #[.slice none 0 0, .slice none 0 0, .int .i64 0, .int .i64 0, .int .i64 0, .int .i64 0] 55) = Y2 ∧ p + 1 = q ∧ Y.heap.size = q ∧ Six Y2 q (.slice none 0 0) (.slice none 0 0) 0 0 0 0 ∧ HM W (.slice A k c) (.slice none 0 0) p q ke d k 0 0 h0 o0 s (put6 Y2 q (.slice A k c) (.slice (some ⟨p, 0, none⟩) k k) ke 1 201 99) := by
  have b1 := below_new w (.cells (zers k) 2)
  have b2 := below_new (w.alloc (.cells (zers k) 2)) (.cells #[.slice none 0 0, .slice none 0 0, .int .i64 0, .int .i64 0, .int .i64 0, .int .i64 0] 55)
  have s1 : (w.alloc (.cells (zers k) 2)).heap.size = w.heap.size + 1 := by simp
  have h6 := Six.new (w.alloc (.cells (zers k) 2)) (b := w.heap.size + 1) s1 (.slice none 0 0) (.slice none 0 0) 0 0 0 0
  have s2 : ((w.alloc (.cells (zers k) 2)).alloc (.cells #[.slice none 0 0, .slice none 0 0, .int .i64 0, .int .i64 0, .int .i64 0, .int .i64 0] 55)).heap.size = w.heap.size + 2 := by simp
  have b3 : Below w.heap.size w (put6 ((w.alloc (.cells (zers k) 2)).alloc (.cells #[.slice none 0 0, .slice none 0 0, .int .i64 0, .int .i64 0, .int .i64 0, .int .i64 0] 55)) (w.heap.size + 1) (.slice A k c) (.slice (some ⟨w.heap.size, 0, none⟩) k k) ke 1 201 99) := below_put6 (b1.trans (b2.mono b1.size)) (by omega)
  have s3 : (put6 ((w.alloc (.cells (zers k) 2)).alloc (.cells #[.slice none 0 0, .slice none 0 0, .int .i64 0, .int .i64 0, .int .i64 0, .int .i64 0] 55)) (w.heap.size + 1) (.slice A k c) (.slice (some ⟨w.heap.size, 0, none⟩) k k) ke 1 201 99).heap.size = w.heap.size + 2 := by simp
  have hrow := h.row.kp (h.mb.kb b3)
  refine ⟨_, _, w.heap.size, w.heap.size + 1, rfl, rfl, rfl, rfl, s1, h6, ⟨?_, hrow.row, h6.put, ?_, World.ownsRow_nil _ _ _ _, ho, fun b e => (by cases e), ⟨h.mb.bel.size, by have := h.mb.bel.size; omega⟩⟩⟩
  · refine h.mb.more b3 fun b e => ?_
    rcases e with e | e | e | e
    · exact .inl e
    · exact absurd e.1 (by intro e; cases e)
    · exact .inr ⟨by omega, by rw [s3]; omega⟩
    · exact .inr ⟨by omega, by rw [s3]; omega⟩
  · have hz : ((w.alloc (.cells (zers k) 2)).alloc (.cells #[.slice none 0 0, .slice none 0 0, .int .i64 0, .int .i64 0, .int .i64 0, .int .i64 0] 55)).heap[w.heap.size]? = some (.cells (zers k) 2 (0, 0)) := (b2.block _ (by omega)).trans (heap_alloc_new _ _)
    have hne : w.heap.size ≠ w.heap.size + 1 := by omega
    rw [heap_setCell_other _ ⟨w.heap.size + 1, 5, none⟩ _ _ hne, heap_setCell_other _ ⟨w.heap.size + 1, 4, none⟩ _ _ hne, heap_setCell_other _ ⟨w.heap.size + 1, 3, none⟩ _ _ hne, heap_setCell_other _ ⟨w.heap.size + 1, 2, none⟩ _ _ hne, heap_setCell_other _ ⟨w.heap.size + 1, 1, none⟩ _ _ hne, heap_setCell_other _ ⟨w.heap.size + 1, 0, none⟩ _ _ hne]
    exact hz
end
end Go.Proofs.Ytfloblofdkemlaa
