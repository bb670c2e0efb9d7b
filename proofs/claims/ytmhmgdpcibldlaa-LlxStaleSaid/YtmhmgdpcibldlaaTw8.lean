/-
  What Ask, and world's touch and node, come to within work.
-/
import Derived.Test.YtmhmgdpcibldlaaTo8
namespace Go.Proofs.Ytmhmgdpcibldlaa
open Go.ChangeShapes Go.WideShapes Go.ChangeAt Go.RowKit
set_option linter.unusedVariables false
set_option linter.unusedSimpArgs false
set_option maxRecDepth 20000

abbrev boolV (z : Int) : Value := .bool (z != 0)
abbrev bV (b : Bool) : Value := .bool b
abbrev noV (z : Int) : Value := .tuple #[]
abbrev uV (z : Unit) : Value := .tuple #[]
/-- A touch that answers V of its number. -/
def TouV (V : Int → Value) (d : Wd) (s : Sig) (R : Nat → Prop) (w : World) (f : Nat) (args : Array Value) (g : Sig → Int × Sig) : Prop :=
  ∀ w1 FW, WS d FW w1 s → (∀ b, R b → w1.heap[b]? = w.heap[b]? ∧ ¬ FW b) → w.heap.size ≤ w1.heap.size → Calls Try.prog f args w1 fun e w2 => e = .returned (V (g s).1) ∧ NxW d FW w1 (g s).2 w2
section
variable {d : Wd} {R R' : Nat → Prop} {w w' w0 : World} {a st ph k me : Nat} {wk : Value} {zs : List Int} {c : Cur} {s : Sig} {V : Int → Value} {f : Nat} {cap : Array Value} {g : Sig → Int × Sig}
/-- The block of a box that was made just now. -/
theorem Kp.new (h : Lv d R w a wk c s) (hb : Below w.heap.size w w') : Kp R w w' := Kp.below hb h.lt
theorem cell_same {w w' : World} {b j : Nat} {v : Value} (hb : w'.heap[b]? = w.heap[b]?) (h : w.cell? ⟨b, j, none⟩ = some v) : w'.cell? ⟨b, j, none⟩ = some v := by
  unfold World.cell? at h ⊢; rw [hb]; exact h
theorem askB_walk {Bx : Nat} (hen : ∀ W : World, (callFunc f cap).run Try.prog W = .ok (.enter f cap) W) (hc : w.cell? ⟨Bx, 0, none⟩ = some (.func (.func f) #[] cap)) {S : World → Prop} {b : Bool}
    (ht : Calls Try.prog f cap w fun e w2 => e = .returned (.bool b) ∧ S w2) :
    Calls Try.prog 109 #[ptr Bx] w fun e w2 => e = .returned (.int .i64 (b2i b)) ∧ S w2 := by
  refine (ask1_walk (S := fun b' w2 => b' = b ∧ S w2) hen hc (ht.mono ?_)).mono ?_
  · rintro e w2 ⟨rfl, h⟩; exact ⟨b, rfl, rfl, h⟩
  · rintro e w2 ⟨b', rfl, rfl, h⟩; exact ⟨rfl, h⟩
theorem ask_touch (hen : ∀ W : World, (callFunc f cap).run Try.prog W = .ok (.enter f cap) W) (h : Lv d R w a wk c s) (hg : c.live = true → (g s).1 = 0 ∨ (g s).1 = 1) (ht : c.live = true → TouV boolV d s R w f cap g) :
    Calls Try.prog 94 #[ptr a, .func (.func f) #[] cap] w (Post d R w a wk bV (run (.tch g fun z => .ret (z != 0)) c s)) := by
  have e2 := eq_ask
  have e3 := mk_fn
  have hrb : run (.tch g fun z => .ret (z != 0)) c s = (run (tDo g) c s).bind fun z c s => .ret (z != 0) c s := run_bind (tDo g) (fun z => .ret (z != 0)) c s
  rw [hrb]
  clear hrb
  obtain ⟨W, hW, bb, cc⟩ : ∃ W : World, w.alloc (.cells #[.func (.func f) #[] cap] 24) = W ∧ Below w.heap.size w W ∧ W.cell? ⟨w.heap.size, 0, none⟩ = some (.func (.func f) #[] cap) := ⟨_, rfl, below_new _ _, c_new rfl rfl⟩
  have hWs : w.heap.size < W.heap.size := World.block_lt_of_cell? W _ cc
  have h1 : Lv d (fun b => R b ∨ b = w.heap.size) W a wk c s := h.more bb (fun b e => e.imp id fun e => by omega)
  have hdo := do_touch (f := 109) (cap := #[ptr w.heap.size]) (g := g) (fun W => rfl) h1 (fun hl => by rcases hg hl with e | e <;> rw [e] <;> (unfold in64; omega)) (by
    intro hl w1 FW hWS hR hsz
    have hc1 := cell_same (hR _ (.inr rfl)).1 cc
    have hx := ht hl w1 FW hWS (fun b e => ⟨(hR b (.inl e)).1.trans (bb.block b (h.lt b e)), (hR b (.inl e)).2⟩) (Nat.le_trans bb.size hsz)
    refine (askB_walk hen hc1 hx).mono ?_
    rintro e w2 ⟨rfl, hn⟩
    refine ⟨?_, hn⟩
    rcases hg hl with e | e <;> rw [e] <;> rfl)
  have HK := Lib.hid (Kp.new h bb)
  have HD := Lib.hid hdo
  clear h ht bb hen h1 hg hWs hdo
  generalize run (tDo g) c s = o at HD ⊢
  go_enter Try.func94, Try.ntmps94
  go_wp2_with fail
  refine HD.out.mono ?_
  clear HD
  rintro e w1 hP
  cases o with
  | wait zs st s' =>
    obtain ⟨k1, rfl, k2⟩ := hP
    exact ⟨rfl, HK.out.trans (k1.mono fun b e => .inl e), rfl, k2.mono fun b e => .inl e⟩
  | ret z c' s' =>
    obtain ⟨k1, rfl, k2⟩ := hP
    have HE : Hid (Post d R w a wk bV (.ret (z != 0) c' s') (.returned (.bool (z != 0))) w1) := ⟨HK.out.trans (k1.mono fun b e => .inl e), rfl, k2.mono fun b e => .inl e⟩
    clear k1 k2
    go_wp2
    go_ret
    exact HE.out
/-- Two boxes. -/
theorem two_boxes (w : World) (a W me : Nat) (v : Value) (t : TypeId) : ∃ (X : World) (p q : Nat), (w.alloc (.cells #[ptr a, ptr W, .int .i64 (me : Int)] tkT)).alloc (.cells #[v] t) = X ∧ w.heap.size = p ∧ p + 1 = q ∧ Below w.heap.size w X ∧ Tk X p a W me ∧ X.cell? ⟨q, 0, none⟩ = some v ∧ X.heap.size = q + 1 :=
  ⟨_, _, _, rfl, rfl, rfl, ((Below.refl _ w).alloc (Nat.le_refl _) _).alloc (by simp) _, (Tk.new w a W me).cells (Below.heap_alloc _ _ _ (by simp)), c_new (by simp) rfl, by simp⟩
end
end Go.Proofs.Ytmhmgdpcibldlaa
