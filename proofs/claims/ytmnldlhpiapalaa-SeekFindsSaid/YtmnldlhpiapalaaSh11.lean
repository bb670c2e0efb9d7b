/-
  Trees as plain data, and in memory; the places that their nodes take.
-/
import Derived.Test.YtmnldlhpiapalaaLk10
namespace Go.Proofs.Ytmnldlhpiapalaa
open Go.ChangeShapes Go.WideShapes Go.ChangeAt Go.RowKit
set_option linter.unusedVariables false
set_option linter.unusedSimpArgs false
set_option maxRecDepth 20000

/-- A tree. -/
inductive Sh where
  | mk (lf tg : Bool) (ps : List (Int × Int)) (ks : List Int) (kids : List Sh)
abbrev shT : TypeId := 93
abbrev shv (lf tg : Bool) (pv kv zv : Value) : Value := .agg #[.bool lf, .bool tg, pv, kv, zv]
mutual
def Sh.many : Sh → Nat
  | .mk _ _ _ _ kids => Sh.manyL kids + 1
def Sh.manyL : List Sh → Nat
  | [] => 0
  | s :: l => s.many + Sh.manyL l
end
mutual
/-- How deep. -/
def Sh.deep : Sh → Nat
  | .mk _ _ _ _ kids => Sh.deepL kids
def Sh.deepL : List Sh → Nat
  | [] => 0
  | s :: l => max (s.deep + 1) (Sh.deepL l)
end
/-- The nodes' references, as they are made from place i on. -/
def refsL : List Sh → Nat → List Int
  | [], _ => []
  | s :: l, i => Go.Proofs.Ytmnldlhpiapalaa.mk ((i + s.many - 1 : Nat) : Int) 1 :: refsL l (i + s.many)
mutual
/-- The places that a tree's nodes take from i on. -/
def Sh.pas : Sh → Nat → List Pa
  | .mk lf tg ps ks kids, i => Sh.pasL kids i ++ [⟨true, 1, ⟨!lf, tg, ps, ks, refsL kids i⟩, refsL kids i, 0, false⟩]
def Sh.pasL : List Sh → Nat → List Pa
  | [], _ => []
  | s :: l, i => s.pas i ++ Sh.pasL l (i + s.many)
end
mutual
/-- A tree in memory: what it is of lies in blocks below lo. -/
def ShV (lo : Nat) (w : World) : Sh → Value → Prop
  | .mk lf tg ps ks kids, v => ∃ A n c B m e C p q, v = shv lf tg (.slice A n c) (.slice B m e) (.slice C p q) ∧ Lp w A n c ps ∧ (∀ ad, A = some ad → ad.block < lo) ∧ Sl w B m e ks ∧ (∀ ad, B = some ad → ad.block < lo) ∧ p = kids.length ∧ p ≤ q ∧ (kids = [] ∨ ∃ g off, C = some ⟨g, off, none⟩ ∧ g < lo ∧ ShC lo w kids g off)
/-- Trees side by side. -/
def ShC (lo : Nat) (w : World) : List Sh → Nat → Nat → Prop
  | [], _, _ => True
  | s :: l, g, off => (∃ x y pv kv zv, w.cell? ⟨g, off, none⟩ = some x ∧ w.cell? ⟨g, off + 1, none⟩ = some y ∧ w.cell? ⟨g, off + 2, none⟩ = some pv ∧ w.cell? ⟨g, off + 3, none⟩ = some kv ∧ w.cell? ⟨g, off + 4, none⟩ = some zv ∧ ShV lo w s (.agg #[x, y, pv, kv, zv])) ∧ ShC lo w l g (off + 5)
end
section
variable {lo lo' : Nat} {w w' : World}
theorem lp_keepB {A : Option Addr} {n c : Nat} {l : List (Int × Int)} (h : Lp w A n c l) (hA : ∀ ad, A = some ad → ad.block < lo) (hb : ∀ b, b < lo → w'.heap[b]? = w.heap[b]?) : Lp w' A n c l := h.keepAt fun ad e _ => hb _ (hA ad e)
theorem sl_keepB {A : Option Addr} {n c : Nat} {l : List Int} (h : Sl w A n c l) (hA : ∀ ad, A = some ad → ad.block < lo) (hb : ∀ b, b < lo → w'.heap[b]? = w.heap[b]?) : Sl w' A n c l := h.keepAt fun ad e _ => hb _ (hA ad e)
mutual
theorem ShV.keep (hb : ∀ b, b < lo → w'.heap[b]? = w.heap[b]?) (hl : lo ≤ lo') : ∀ (s : Sh) (v : Value), ShV lo w s v → ShV lo' w' s v
  | .mk lf tg ps ks kids, v => by
    rintro ⟨A, n, c, B, m, e, C, p, q, rfl, h1, h2, h3, h4, h5, h6, h7⟩
    refine ⟨A, n, c, B, m, e, C, p, q, rfl, lp_keepB h1 h2 hb, fun ad e => Nat.lt_of_lt_of_le (h2 ad e) hl, sl_keepB h3 h4 hb, fun ad e => Nat.lt_of_lt_of_le (h4 ad e) hl, h5, h6, ?_⟩
    rcases h7 with h7 | ⟨g, off, h7, h8, h9⟩
    · exact .inl h7
    · exact .inr ⟨g, off, h7, Nat.lt_of_lt_of_le h8 hl, ShC.keep hb hl kids g off h8 h9⟩
theorem ShC.keep (hb : ∀ b, b < lo → w'.heap[b]? = w.heap[b]?) (hl : lo ≤ lo') : ∀ (l : List Sh) (g off : Nat), g < lo → ShC lo w l g off → ShC lo' w' l g off
  | [], _, _ => fun _ _ => trivial
  | s :: l, g, off => fun hg => by
    rintro ⟨⟨x, y, pv, kv, zv, c0, c1, c2, c3, c4, h1⟩, h2⟩
    have hc : ∀ j, w'.cell? ⟨g, j, none⟩ = w.cell? ⟨g, j, none⟩ := fun j => by unfold World.cell?; simp only; rw [hb g hg]
    exact ⟨⟨x, y, pv, kv, zv, (hc _).trans c0, (hc _).trans c1, (hc _).trans c2, (hc _).trans c3, (hc _).trans c4, ShV.keep hb hl s _ h1⟩, ShC.keep hb hl l g (off + 5) hg h2⟩
end
theorem ShC.at_ {l : List Sh} {g off i : Nat} {s : Sh} (h : ShC lo w l g off) (hi : l[i]? = some s) : ∃ x y pv kv zv, w.cell? ⟨g, off + i * 5, none⟩ = some x ∧ w.cell? ⟨g, off + i * 5 + 1, none⟩ = some y ∧ w.cell? ⟨g, off + i * 5 + 2, none⟩ = some pv ∧ w.cell? ⟨g, off + i * 5 + 3, none⟩ = some kv ∧ w.cell? ⟨g, off + i * 5 + 4, none⟩ = some zv ∧ ShV lo w s (.agg #[x, y, pv, kv, zv]) := by
  induction l generalizing off i with
  | nil => cases hi
  | cons s0 l ih =>
    cases i with
    | zero => injection hi with hi; subst hi; simpa using h.1
    | succ i =>
      have := ih h.2 hi
      rw [show off + 5 + i * 5 = off + (i + 1) * 5 from by omega] at this
      exact this
theorem ShV.form {s : Sh} {v : Value} (h : ShV lo w s v) : ∃ lf tg A n c B m e C p q, v = shv lf tg (.slice A n c) (.slice B m e) (.slice C p q) := by
  obtain ⟨lf, tg, ps, ks, kids⟩ := s
  obtain ⟨A, n, c, B, m, e, C, p, q, rfl, -⟩ := h
  exact ⟨_, _, A, n, c, B, m, e, C, p, q, rfl⟩
theorem ShC.atF {l : List Sh} {g off i : Nat} {s : Sh} (h : ShC lo w l g off) (hi : l[i]? = some s) : ∃ lf tg A n c B m e C p q, w.cell? ⟨g, off + i * 5, none⟩ = some (.bool lf) ∧ w.cell? ⟨g, off + i * 5 + 1, none⟩ = some (.bool tg) ∧ w.cell? ⟨g, off + i * 5 + 2, none⟩ = some (.slice A n c) ∧ w.cell? ⟨g, off + i * 5 + 3, none⟩ = some (.slice B m e) ∧ w.cell? ⟨g, off + i * 5 + 4, none⟩ = some (.slice C p q) ∧ ShV lo w s (shv lf tg (.slice A n c) (.slice B m e) (.slice C p q)) := by
  obtain ⟨x, y, pv, kv, zv, c0, c1, c2, c3, c4, h5⟩ := h.at_ hi
  obtain ⟨lf, tg, A, n, c, B, m, e, C, p, q, hv⟩ := h5.form
  injection hv with hv
  injection hv with hv
  injection hv with e0 hv
  injection hv with e1 hv
  injection hv with e2 hv
  injection hv with e3 hv
  injection hv with e4 hv
  subst e0 e1 e2 e3 e4
  exact ⟨lf, tg, A, n, c, B, m, e, C, p, q, c0, c1, c2, c3, c4, h5⟩
theorem ShV.below {s : Sh} {v : Value} (h : ShV lo w s v) (hb : Below w.heap.size w w') (hl : lo ≤ w.heap.size) : ShV lo w' s v := h.keep (fun b e => hb.block b (by omega)) (Nat.le_refl _) s v
end
theorem manyL_append (l m : List Sh) : Sh.manyL (l ++ m) = Sh.manyL l + Sh.manyL m := by
  induction l with
  | nil => simp [Sh.manyL]
  | cons s l ih => simp only [List.cons_append, Sh.manyL, ih]; omega
theorem pasL_append (l m : List Sh) (i : Nat) : Sh.pasL (l ++ m) i = Sh.pasL l i ++ Sh.pasL m (i + Sh.manyL l) := by
  induction l generalizing i with
  | nil => simp [Sh.pasL, Sh.manyL]
  | cons s l ih => simp only [List.cons_append, Sh.pasL, Sh.manyL, ih, List.append_assoc, Nat.add_assoc]
theorem refsL_append (l m : List Sh) (i : Nat) : refsL (l ++ m) i = refsL l i ++ refsL m (i + Sh.manyL l) := by
  induction l generalizing i with
  | nil => simp [refsL, Sh.manyL]
  | cons s l ih => simp only [List.cons_append, refsL, Sh.manyL, ih, Nat.add_assoc]
theorem refsL_len (l : List Sh) (i : Nat) : (refsL l i).length = l.length := by
  induction l generalizing i with
  | nil => rfl
  | cons s l ih => simp only [refsL, List.length_cons, ih]
mutual
theorem pas_len : ∀ (s : Sh) (i : Nat), (s.pas i).length = s.many
  | .mk lf tg ps ks kids, i => by simp only [Sh.pas, Sh.many, List.length_append, List.length_singleton, pasL_len kids i]
theorem pasL_len : ∀ (l : List Sh) (i : Nat), (Sh.pasL l i).length = Sh.manyL l
  | [], _ => rfl
  | s :: l, i => by simp only [Sh.pasL, Sh.manyL, List.length_append, pas_len s i, pasL_len l (i + s.many)]
end
theorem len_le_many (l : List Sh) : l.length ≤ Sh.manyL l := by
  induction l with
  | nil => exact Nat.zero_le _
  | cons s l ih => cases s; simp only [List.length_cons, Sh.manyL, Sh.many]; omega
theorem many_pos (s : Sh) : 1 ≤ s.many := by cases s; simp only [Sh.many]; omega
theorem many_le {l : List Sh} {s : Sh} (h : s ∈ l) : s.many ≤ Sh.manyL l := by
  induction l with
  | nil => cases h
  | cons a l ih =>
    rcases List.mem_cons.1 h with rfl | h
    · simp only [Sh.manyL]; omega
    · have := ih h; simp only [Sh.manyL]; omega
/-- With so many places more. -/
def addP (s : Sig) (l : List Pa) : Sig := { s with ar := { s.ar with pls := s.ar.pls ++ l } }
theorem addP_nil (s : Sig) : addP s [] = s := by simp [addP]
theorem addP_add (s : Sig) (l m : List Pa) : addP (addP s l) m = addP s (l ++ m) := by simp [addP]
/-- A node made where nothing was freed. -/
theorem gMake_new {nd : Nd} {s : Sig} (hf : s.ar.fr = []) (hr : s.ar.pls.length < s.ar.most) : gMake nd s = (Go.Proofs.Ytmnldlhpiapalaa.mk ((s.ar.pls.length : Nat) : Int) 1, addP s [⟨true, 1, nd, nd.zs, 0, false⟩]) := by
  obtain ⟨⟨most, pls, fr, flt⟩, now, S, rs⟩ := s
  obtain rfl : fr = [] := hf
  have hr : pls.length < most := hr
  have h1 : (⟨most, pls, [], flt⟩ : As).room := by unfold As.room; simp; omega
  have h2 : (⟨most, pls, [], flt⟩ : As).next = (pls.length, ⟨most, pls ++ [Pa.nil], [], flt⟩) := rfl
  have h3 : (⟨most, pls, [], flt⟩ : As).cntN = 0 := by unfold As.cntN; rw [h2]; simp [Pa.nil]
  have h4 : (⟨most, pls, [], flt⟩ : As).alloc 1 nd = ⟨most, pls ++ [⟨true, 1, nd, nd.zs, 0, false⟩], [], flt⟩ := by unfold As.alloc; rw [h2]; simp
  unfold gMake As.make
  rw [if_pos h1, h3, h2, h4]
  rfl
mutual
/-- Trees whose nodes are as small as they may be. -/
def Sh.small : Sh → Prop
  | .mk _ _ ps ks kids => ps.length ≤ 100 ∧ ks.length ≤ 100 ∧ kids.length ≤ 100 ∧ Sh.smallL kids
def Sh.smallL : List Sh → Prop
  | [] => True
  | s :: l => s.small ∧ Sh.smallL l
end
theorem smallL_mem {l : List Sh} (h : Sh.smallL l) {s : Sh} (hs : s ∈ l) : s.small := by
  induction l with
  | nil => cases hs
  | cons a l ih =>
    rcases List.mem_cons.1 hs with rfl | hs
    · exact h.1
    · exact ih h.2 hs
end Go.Proofs.Ytmnldlhpiapalaa
