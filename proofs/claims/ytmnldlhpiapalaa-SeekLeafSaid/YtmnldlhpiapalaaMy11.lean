/-
  How many nodes a tree has; a tree's nodes, made.
-/
import Derived.Test.YtmnldlhpiapalaaSh11
import Derived.Deep.Cut
namespace Go.Proofs.Ytmnldlhpiapalaa
open Go.ChangeShapes Go.WideShapes Go.ChangeAt Go.RowKit
set_option linter.unusedVariables false
set_option linter.unusedSimpArgs false
set_option maxRecDepth 20000

/-- A variable of a tree's five cells. -/
def Shc (w : World) (b : Nat) (x y pv kv zv : Value) : Prop := w.heap[b]? = some (.cells #[x, y, pv, kv, zv] shT (0, 0))
section
variable {w w' : World} {b : Nat} {x y pv kv zv : Value}
theorem Shc.cells (h : Shc w b x y pv kv zv) : w.cell? ⟨b, 0, none⟩ = some x ∧ w.cell? ⟨b, 1, none⟩ = some y ∧ w.cell? ⟨b, 2, none⟩ = some pv ∧ w.cell? ⟨b, 3, none⟩ = some kv ∧ w.cell? ⟨b, 4, none⟩ = some zv := by
  refine ⟨?_, ?_, ?_, ?_, ?_⟩ <;> (rw [cell_of_row w b _ _ _ (0, 0) h]; rfl)
theorem Shc.below (h : Shc w b x y pv kv zv) (hb : Below w.heap.size w w') : Shc w' b x y pv kv zv := (hb.block b (Array.getElem?_eq_some_iff.1 h).1).trans h
theorem Shc.at_ (h : Shc w b x y pv kv zv) (hb : w'.heap[b]? = w.heap[b]?) : Shc w' b x y pv kv zv := hb.trans h
theorem Shc.new (w : World) (x y pv kv zv : Value) : ∃ (X : World) (p : Nat), w.alloc (.cells #[x, y, pv, kv, zv] shT) = X ∧ w.heap.size = p ∧ Below w.heap.size w X ∧ Shc X p x y pv kv zv ∧ X.heap.size = p + 1 := ⟨_, _, rfl, rfl, below_new _ _, heap_alloc_new _ _, by simp⟩
end
set_option maxHeartbeats 4000000 in
theorem many_walk : ∀ (n : Nat) (s : Sh), s.many ≤ n → s.many ≤ 100000 → ∀ (lo : Nat) (w : World) (v : Value), ShV lo w s v → lo ≤ w.heap.size →
    Calls Try.prog 73 #[v] w fun e w' => e = .returned (.int .i64 (s.many : Int)) ∧ Below w.heap.size w w' := by
  intro n
  induction n with
  | zero => intro s h; have := many_pos s; omega
  | succ n ih =>
    intro s hn hm lo w v hv hlo
    obtain ⟨lf, tg, ps, ks, kids⟩ := s
    obtain ⟨A, na, c, B, m, e, C, p, q, rfl, h1, h2, h3, h4, h5, h6, h7⟩ := hv
    have hmk : (Sh.mk lf tg ps ks kids).many = Sh.manyL kids + 1 := rfl
    rw [hmk] at hn hm ⊢
    have hpl : p ≤ 100000 := by have := len_le_many kids; omega
    have HP := Lib.hid h5
    clear h5
    have IH := Lib.hid ih
    have HC : Hid (∀ (j : Nat) (s : Sh), kids[j]? = some s → ∃ g off, C = some ⟨g, off, none⟩ ∧ g < lo ∧ ShC lo w kids g off) := by
      intro j s hj
      rcases h7 with h7 | h7
      · subst h7; cases hj
      · exact h7
    obtain ⟨X, b, hX, hb, bX, eX, sX⟩ := Shc.new w (.bool lf) (.bool tg) (.slice A na c) (.slice B m e) (.slice C p q)
    obtain ⟨x0, x1, x2, x3, x4⟩ := eX.cells
    have HBX : Hid (Below w.heap.size w X) := bX
    have HLO := Lib.hid hlo
    have HNM := Lib.hid hn
    clear ih h1 h2 h3 h4 h7 bX sX eX hn hlo
    go_enter Try.func73, Try.ntmps73
    go_wp2_with fail
    (try rw [hX]); (try rw [hb])
    clear x0 x1 x2 x3 x4 hX hb hmk
    go_loopg [9, 3] p (fun gk iv tv wr => ∃ j : Nat, j + gk = p ∧ iv = .int .i64 (j : Int) ∧ tv = .int .i64 ((Sh.manyL (kids.take j) + 1 : Nat) : Int) ∧ Hid (Below w.heap.size w wr))
    case atStart => exact ⟨0, by omega, rfl, rfl, HBX.out⟩
    case round =>
      obtain ⟨j, hj, rfl, rfl, HB⟩ := hrel
      by_cases hlt : j < p
      case neg =>
        have i1 : ¬ ((j : Int) < (p : Int)) := by omega
        have hE : kids.take j = kids := List.take_of_length_le (by have := HP.out; omega)
        rw [hE]
        clear HC IH
        go_wp2
        go_ret
        exact ⟨rfl, HB.out⟩
      have i1 : (j : Int) < (p : Int) := by omega
      have i0 : (0 : Int) ≤ (j : Int) := by omega
      have hkw : IntKind.i64.wrap ((j : Int) + 1) = (j : Int) + 1 := IntWalk.i64_in _ (by omega)
      obtain ⟨x, hx⟩ : ∃ x, kids[j]? = some x := ⟨_, List.getElem?_eq_getElem (by have := HP.out; omega)⟩
      obtain ⟨g, off, rfl, hg, hC⟩ := HC.out j x hx
      obtain ⟨lf', tg', A', n', c', B', m', e', C', p', q', c0, c1, c2, c3, c4, hV⟩ := hC.atF hx
      have c0 := below_read HB.out c0
      have c1 := below_read HB.out c1
      have c2 := below_read HB.out c2
      have c3 := below_read HB.out c3
      have c4 := below_read HB.out c4
      obtain ⟨V, u, hV2, hu, bV, eV, sV⟩ := Shc.new wr (.bool lf') (.bool tg') (.slice A' n' c') (.slice B' m' e') (.slice C' p' q')
      obtain ⟨x0, x1, x2, x3, x4⟩ := eV.cells
      have bwV : Below w.heap.size w V := HB.out.trans (bV.mono HB.out.size)
      have hmx : x.many ≤ Sh.manyL kids := many_le (List.mem_of_getElem? hx)
      have htk : Sh.manyL (kids.take (j + 1)) = Sh.manyL (kids.take j) + x.many := by
        rw [List.take_add_one, hx]
        show Sh.manyL (kids.take j ++ [x]) = _
        rw [manyL_append]; simp [Sh.manyL]
      have hmt : Sh.manyL (kids.take (j + 1)) ≤ Sh.manyL kids := by
        have := manyL_append (kids.take (j + 1)) (kids.drop (j + 1))
        rw [List.take_append_drop] at this; omega
      have HI := Lib.hid (IH.out x (by have := HNM.out; omega) (by omega) lo V _ (hV.below bwV HLO.out) (by have := HLO.out; have := bwV.size; omega))
      have HTK := Lib.hid htk
      have HBV := Lib.hid bwV
      have hw2 : IntKind.i64.wrap (((Sh.manyL (kids.take j) : Nat) : Int) + 1 + (x.many : Int)) = ((Sh.manyL (kids.take (j + 1)) + 1 : Nat) : Int) := by rw [IntWalk.i64_in _ (by omega)]; omega
      clear hC hV bV eV sV bwV htk HC IH HB hx
      generalize Sh.manyL (kids.take j) = k0 at *
      go_wp2_with fail
      (try rw [hV2]); (try rw [hu])
      clear hV2 hu x0 x1 x2 x3 x4 c0 c1 c2 c3 c4
      refine HI.out.mono ?_
      rintro e w2 ⟨rfl, b2⟩
      have HE : Hid (Below w.heap.size w w2) := HBV.out.trans (b2.mono HBV.out.size)
      clear HI b2 HBV
      go_wp2
      go_roundg (gk - 1)
      case measure => omega
      case rel => exact ⟨j + 1, by omega, by go_num, by first | rfl | (congr 1; omega), HE.out⟩
end Go.Proofs.Ytmnldlhpiapalaa
