/-
  HelpAlone: its things while the record's rows grow.
-/
import Derived.Test.YtoeilogakfggfaaHp10
namespace Go.Proofs.Ytoeilogakfggfaa
open Go.ChangeShapes Go.WideShapes Go.ChangeAt Go.RowKit
set_option linter.unusedVariables false
set_option linter.unusedSimpArgs false
set_option maxRecDepth 20000

abbrev rcT : TypeId := 39
abbrev waT : TypeId := 42
def onL (lw : List (Nat × Int)) (j : Nat) : List Nat := (lw.take j).map fun t => t.1 % 5
def isL (lw : List (Nat × Int)) (j : Nat) : List Int := (lw.take j).map fun t => t.2.tmod 4
theorem onL_step {lw : List (Nat × Int)} {j : Nat} {t : Nat × Int} (h : lw[j]? = some t) : onL lw (j + 1) = onL lw j ++ [t.1 % 5] := by simp [onL, List.take_add_one, h]
theorem isL_step {lw : List (Nat × Int)} {j : Nat} {t : Nat × Int} (h : lw[j]? = some t) : isL lw (j + 1) = isL lw j ++ [t.2.tmod 4] := by simp [isL, List.take_add_one, h]
def ints2 (l : List Nat) : List Int := l.map (fun x : Nat => (x : Int))
theorem ints2_len (l : List Nat) : (ints2 l).length = l.length := by simp [ints2]
theorem onL_len (lw : List (Nat × Int)) (j : Nat) : (onL lw j).length ≤ lw.length := by simp [onL]; omega
theorem isL_len (lw : List (Nat × Int)) (j : Nat) : (isL lw j).length ≤ lw.length := by simp [isL]; omega
section
variable {W : World} {d : Wd} {s s' : Sig} {w w' : World} {l : List Thg} {t : Thg} {i b : Nat} {ty : TypeId} {cs : Array Value} {v : Value} {zs : List Int}
/-- A record in a variable of its own. -/
theorem Ob.rcd (h : Ob W d s w l) (u v : Value) (k y o n : Int) :
    ∃ (Y : World) (q : Nat) (Z : World), w.alloc (.cells #[.slice none 0 0, .slice none 0 0, .int .i64 0, .int .i64 0, .int .i64 0, .int .i64 0] rcT) = Y ∧ w.heap.size = q ∧ Six Y q (.slice none 0 0) (.slice none 0 0) 0 0 0 0 ∧ put6 Y q u v k y o n = Z ∧ Ob W d s Z (l ++ [.box q rcT #[u, v, .int .i64 k, .int .i64 y, .int .i64 o, .int .i64 n]]) := by
  have b1 := below_new w (.cells #[.slice none 0 0, .slice none 0 0, .int .i64 0, .int .i64 0, .int .i64 0, .int .i64 0] rcT)
  have h6 := Six.new w (b := w.heap.size) rfl (.slice none 0 0) (.slice none 0 0) 0 0 0 0
  have b3 : Below w.heap.size w (put6 (w.alloc (.cells #[.slice none 0 0, .slice none 0 0, .int .i64 0, .int .i64 0, .int .i64 0, .int .i64 0] rcT)) w.heap.size u v k y o n) := below_put6 b1 (Nat.le_refl _)
  exact ⟨_, _, _, rfl, rfl, h6, rfl, h.snoc b3 h6.put fun b e => by injection e with e; omega⟩
/-- A Want in a variable of its own. -/
theorem Ob.want (h : Ob W d s w l) (x y : Int) :
    ∃ (Y : World) (q : Nat) (Z : World), w.alloc (.cells #[.int .u8 0, .int .i8 0] waT) = Y ∧ w.heap.size = q ∧ Y.cell? ⟨q, 0, none⟩ = some (.int .u8 0) ∧ Y.cell? ⟨q, 1, none⟩ = some (.int .i8 0) ∧ Y.frozen? ⟨q, 0, none⟩ = false ∧ Y.frozen? ⟨q, 1, none⟩ = false ∧ (Y.setCell ⟨q, 0, none⟩ (.int .u8 x)).setCell ⟨q, 1, none⟩ (.int .i8 y) = Z ∧ Ob W d s Z (l ++ [.box q waT #[.int .u8 x, .int .i8 y]]) := by
  have h1 := h.box #[.int .u8 0, .int .i8 0] waT
  have hl : (l ++ [Thg.box w.heap.size waT #[.int .u8 0, .int .i8 0]])[l.length]? = some (.box w.heap.size waT #[.int .u8 0, .int .i8 0]) := by simp
  have h2 := h1.set hl 0 (.int .u8 x)
  have hl2 : ((l ++ [Thg.box w.heap.size waT #[.int .u8 0, .int .i8 0]]).set l.length (.box w.heap.size waT (#[Value.int .u8 0, .int .i8 0].setIfInBounds 0 (.int .u8 x))))[l.length]? = some (.box w.heap.size waT (#[Value.int .u8 0, .int .i8 0].setIfInBounds 0 (.int .u8 x))) := by simp
  have h3 := h2.set hl2 1 (.int .i8 y)
  refine ⟨_, _, _, rfl, rfl, h1.cell hl rfl, h1.cell hl rfl, h1.free hl 0, h1.free hl 1, rfl, ?_⟩
  have e : (((l ++ [Thg.box w.heap.size waT #[.int .u8 0, .int .i8 0]]).set l.length (.box w.heap.size waT (#[Value.int .u8 0, .int .i8 0].setIfInBounds 0 (.int .u8 x)))).set l.length (.box w.heap.size waT ((#[Value.int .u8 0, .int .i8 0].setIfInBounds 0 (.int .u8 x)).setIfInBounds 1 (.int .i8 y)))) = l ++ [.box w.heap.size waT #[.int .u8 x, .int .i8 y]] := by
    rw [List.set_set]
    simp
  rw [e] at h3
  exact h3
/-- The last thing is forgotten. -/
theorem Ob.init (h : Ob W d s w (l ++ [t])) : Ob W d s w l := by
  obtain ⟨X, h1, h2, h3, h4⟩ := h
  refine ⟨X, h1, fun t e => h2 t (List.mem_append.2 (.inl e)), fun t e => h3 t (List.mem_append.2 (.inl e)), fun i j t u b hi hj h5 h6 => h4 i j t u b ?_ ?_ h5 h6⟩
  · rw [List.getElem?_append_left (List.getElem?_eq_some_iff.1 hi).1]; exact hi
  · rw [List.getElem?_append_left (List.getElem?_eq_some_iff.1 hj).1]; exact hj
/-- A number behind a row, out of a slice made for it. -/
theorem Ob.push1 {sl : TypeId} (R : RowT sl ty) {z : Int} (h : Ob W d s w l) (hi : l[i]? = some (.row v ty zs)) (hl : zs.length ≤ 1000) :
    ∃ A' m' c' Z, (Builtin.append_ #[sl, sl] sl #[v, .slice (some ⟨w.heap.size, 0, none⟩) 1 1]).run Try.prog (w.alloc (.cells #[.int .i64 z] ty)) = .ok (.slice A' m' c') Z ∧ Ob W d s Z (l.set i (.row (.slice A' m' c') ty (zs ++ [z]))) := by
  obtain ⟨A', m', c', Z, h1, h2, -⟩ := (h.below (below_new w (.cells #[.int .i64 z] ty))).push R (g := w.heap.size) (z := z) hi (c_new rfl rfl) hl
  exact ⟨A', m', c', Z, h1, h2⟩
end
/-- What is held while the record's rows grow: in the variable still the rows as they were. -/
def OC (W : World) (d : Wd) (s : Sig) (f : Nat → Ns) (vG : Value) (nb q x : Nat) (vN0 vI0 : Value) (kp wy : Int) (xn xi : Int) (vO : Value) (lO : List Int) (vN vI : Value) (lN lI : List Int) (w : World) : Prop :=
  Ob W d s w [.row vG rfT (refN 5), .box nb i6T (infC f), .box q rcT #[vN0, vI0, .int .i64 kp, .int .i64 wy, .int .i64 0, .int .i64 99], .row vO inT lO, .row vN rfT lN, .row vI i6T lI, .box x waT #[.int .u8 xn, .int .i8 xi]]
section
variable {W : World} {d : Wd} {s : Sig} {f : Nat → Ns} {vG vN0 vI0 vO vN vI : Value} {nb q x : Nat} {kp wy xn xi : Int} {lO lN lI : List Int} {w w' : World}
theorem OC.below (h : OC W d s f vG nb q x vN0 vI0 kp wy xn xi vO lO vN vI lN lI w) (hb : Below w.heap.size w w') : OC W d s f vG nb q x vN0 vI0 kp wy xn xi vO lO vN vI lN lI w' := Ob.below h hb
theorem OC.apN {g : Nat} {z : Int} (h : OC W d s f vG nb q x vN0 vI0 kp wy xn xi vO lO vN vI lN lI w) (hc : w.heap[g]? = some (.cells #[.int .i64 z] rfT (0, 0))) (hl : lN.length ≤ 1000) :
    ∃ A' m' c' Z, (Builtin.append_ #[26, 26] 26 #[vN, .slice (some ⟨g, 0, none⟩) 1 1]).run Try.prog w = .ok (.slice A' m' c') Z ∧ OC W d s f vG nb q x vN0 vI0 kp wy xn xi vO lO (.slice A' m' c') vI (lN ++ [z]) lI Z ∧ ∀ b ty, Ty w b ty → ty ≠ rfT → Z.heap[b]? = w.heap[b]? := by
  obtain ⟨A', m', c', Z, h1, h2, h3⟩ := Ob.push rowR h (i := 4) rfl (num_cell hc) hl
  exact ⟨A', m', c', Z, h1, h2, fun b ty e hne => h3 b (by obtain ⟨cs, hcs⟩ := e; exact (Array.getElem?_eq_some_iff.1 hcs).1) fun e2 => hne (e.one (own_ty (h.row_at (i := 4) rfl) e2))⟩
theorem OC.apI {g : Nat} {z : Int} (h : OC W d s f vG nb q x vN0 vI0 kp wy xn xi vO lO vN vI lN lI w) (hc : w.heap[g]? = some (.cells #[.int .i64 z] i6T (0, 0))) (hl : lI.length ≤ 1000) :
    ∃ A' m' c' Z, (Builtin.append_ #[29, 29] 29 #[vI, .slice (some ⟨g, 0, none⟩) 1 1]).run Try.prog w = .ok (.slice A' m' c') Z ∧ OC W d s f vG nb q x vN0 vI0 kp wy xn xi vO lO vN (.slice A' m' c') lN (lI ++ [z]) Z ∧ ∀ b ty, Ty w b ty → ty ≠ i6T → Z.heap[b]? = w.heap[b]? := by
  obtain ⟨A', m', c', Z, h1, h2, h3⟩ := Ob.push rowK h (i := 5) rfl (num_cell hc) hl
  exact ⟨A', m', c', Z, h1, h2, fun b ty e hne => h3 b (by obtain ⟨cs, hcs⟩ := e; exact (Array.getElem?_eq_some_iff.1 hcs).1) fun e2 => hne (e.one (own_ty (h.row_at (i := 5) rfl) e2))⟩
theorem OC.cells (h : OC W d s f vG nb q x vN0 vI0 kp wy xn xi vO lO vN vI lN lI w) : w.cell? ⟨q, 0, none⟩ = some vN0 ∧ w.cell? ⟨q, 1, none⟩ = some vI0 ∧ w.cell? ⟨x, 1, none⟩ = some (.int .i8 xi) ∧ w.frozen? ⟨q, 0, none⟩ = false ∧ w.frozen? ⟨q, 1, none⟩ = false :=
  ⟨Ob.cell h (i := 2) rfl rfl, Ob.cell h (i := 2) rfl rfl, Ob.cell h (i := 6) rfl rfl, Ob.free h (i := 2) rfl 0, Ob.free h (i := 2) rfl 1⟩
theorem OC.put0 (h : OC W d s f vG nb q x vN0 vI0 kp wy xn xi vO lO vN vI lN lI w) (v : Value) : OC W d s f vG nb q x v vI0 kp wy xn xi vO lO vN vI lN lI (w.setCell ⟨q, 0, none⟩ v) := Ob.set h (i := 2) rfl 0 v
theorem OC.put1 (h : OC W d s f vG nb q x vN0 vI0 kp wy xn xi vO lO vN vI lN lI w) (v : Value) : OC W d s f vG nb q x vN0 v kp wy xn xi vO lO vN vI lN lI (w.setCell ⟨q, 1, none⟩ v) := Ob.set h (i := 2) rfl 1 v
end
end Go.Proofs.Ytoeilogakfggfaa
