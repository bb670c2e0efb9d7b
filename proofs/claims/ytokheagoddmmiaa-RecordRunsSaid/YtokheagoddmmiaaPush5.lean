/-
  An item is put behind a row of items: the run of 'append', and what the table is behind the store of it.
-/
import Derived.Test.YtokheagoddmmiaaFun5
namespace Go.Proofs.Ytokheagoddmmiaa
open Go.ChangeShapes Go.WideShapes Go.ChangeAt Go.RowKit
set_option linter.unusedVariables false
set_option linter.unusedSimpArgs false
set_option maxRecDepth 20000

/-- What the program says of a slice type sl of items of kind t. -/
structure ItemT (sl t : TypeId) : Prop where
  under : Try.prog.underlying sl = some (.slice t)
  info : ∃ z by_, by_ ≤ 200 ∧ z.cells.size = 8 ∧ (Try.prog.info? t).map (fun i => (i.zero, i.size, i.bytes)) = some (some z, 8, by_)
  ne : t ≠ 30 ∧ t ≠ 2
theorem itemT : ItemT 54 itT := ⟨Try.underlying54, ⟨.agg #[.slice none 0 0, .slice none 0 0, .int .i64 0, .int .i64 0, .int .i64 0, .int .i64 0, .int .u8 0, .bool false], 88, by omega, rfl, by kernel_rfl⟩, itT_ne.1, itT_ne.2.1⟩
abbrev enT : TypeId := 38
theorem entryT : ItemT 26 enT := ⟨Try.underlying26, ⟨.agg #[.slice none 0 0, .slice none 0 0, .int .i64 0, .int .i64 0, .int .i64 0, .int .i64 0, .int .u8 0, .bool false], 88, by omega, rfl, by kernel_rfl⟩, by decide, by decide⟩

theorem cells_blk {W : World} {s : Nat} {t : TypeId} {cs : Array Value} (h : W.heap[s]? = some (.cells cs t (0, 0))) : ∀ (j : Nat) (u : Value), cs.toList[j]? = some u → W.cell? ⟨s, j, none⟩ = some u := by
  intro j u hj
  rw [cell_of_row W s j cs t (0, 0) h]
  simpa using hj

section
variable {F G : Nat → Prop} {w w' : World} {a m i : Nat} {l : List It} {P : Value} {x : It} {n : Int} {sl t : TypeId}
theorem cellsOf_one (h : ItM w F x) : ∀ u ∈ cellsOf x, u.oneCell' = true := by
  obtain ⟨A, n, c, e1⟩ := h.ns.shape
  obtain ⟨B, m, d, e2⟩ := h.is.shape
  intro u hu
  simp only [cellsOf, List.mem_cons, List.not_mem_nil, or_false] at hu
  rcases hu with rfl | rfl | rfl | rfl | rfl | rfl | rfl | rfl
  · rw [e1]; rfl
  · rw [e2]; rfl
  all_goals rfl

/-- The run of 'append(items, item)'. -/
theorem Its.run (R : ItemT sl t) (h : Its t F w P l) (ty : TypeId) (s : Nat) (hs : ∀ (j : Nat) (u : Value), (cellsOf x)[j]? = some u → w.cell? ⟨s, j, none⟩ = some u) (hl : l.length ≤ 70000) (hx : ItM w G x) (hGF : ∀ b, F b → G b) (hG : ∀ b, G b → b < w.heap.size) :
    ∃ P' w', (Builtin.append_ #[sl, sl] ty #[P, .slice (some ⟨s, 0, none⟩) 1 1]).run Try.prog w = .ok P' w' ∧ (∃ A c, P' = .slice A (l.length + 1) c) ∧ Its t (fun b => G b ∨ P'.ownBlock = some b) w' P' (l ++ [x]) ∧ w.grownBy w' P.ownBlock ∧ (∀ b, P'.ownBlock = some b → P.ownBlock = some b ∨ w.heap.size ≤ b) := by
  obtain ⟨z, by_, hby, hzc, hinf⟩ := R.info
  obtain ⟨i0, hi0, hz0, hz1, hz2⟩ := info_parts hinf
  obtain ⟨P', w', hr, ho, hg, hb⟩ := run_push (w := w) sl ty t i0 z 8 by_ R.under hi0 hz0 hz1 hz2 hzc (by omega) P l.length (rowOf l) h.row ⟨s, 0, none⟩ 1 1 (cellsOf x) (by rw [cellsOf_length])
    (fun j u hj => by rw [add_lit0, Nat.zero_add]; exact hs j u hj) (cellsOf_one hx) (by unfold maxLen; omega) (by have : (l.length + 1) * by_ ≤ 70001 * 200 := Nat.mul_le_mul (by omega) hby; omega)
  refine ⟨P', w', hr, ?_, h.push hx hGF hG R.ne.1 R.ne.2 ho hg hb, hg, hb⟩
  rcases ho.2 with ⟨_, h0⟩ | ⟨g, cap, cur, rfl, _⟩
  · omega
  · exact ⟨_, cap, rfl⟩

/-- A store into a block of another kind. -/
theorem Its.set (h : Its t F w P l) {p : Addr} {t' : TypeId} (hp : Ty w p.block t') (h1 : t' ≠ t) (h2 : t' ≠ 30) (h3 : t' ≠ 2) (u : Value) : Its t F (w.setCell p u) P l :=
  ⟨fun b e => by simpa using h.lt b e, own_set h.row hp h1 u, h.frow, fun x hx => ⟨own_set (h.mem x hx).ns hp h2 u, own_set (h.mem x hx).is hp h3 u, (h.mem x hx).own, (h.mem x hx).few⟩⟩

theorem tbT_ne : 56 ≠ itT ∧ 56 ≠ 30 ∧ 56 ≠ 2 := by decide
/-- Behind the store of the longer row. -/
theorem Tb.pushed {X : World} (h : Tb F w a m l P) (hb : Below w.heap.size w X) (hn : Row 30 w.heap.size X x.nv x.rc.ns) (hi : Row 2 w.heap.size X x.iv x.rc.is) (hf : x.rc.ns.length ≤ 20 ∧ x.rc.is.length ≤ 20) (hl : l.length ≤ 70000)
    (s : Nat) (hs : ∀ (j : Nat) (u : Value), (cellsOf x)[j]? = some u → X.cell? ⟨s, j, none⟩ = some u) :
    ∃ P2 w2 F', (∀ ty, (Builtin.append_ #[54, 54] ty #[P, .slice (some ⟨s, 0, none⟩) 1 1]).run Try.prog X = .ok P2 w2) ∧ (∃ A c, P2 = .slice A (l.length + 1) c) ∧ w2.cell? ⟨a, 1, none⟩ = some P ∧ w2.frozen? ⟨a, 1, none⟩ = false ∧
      Tb F' (w2.setCell ⟨a, 1, none⟩ P2) a m (l ++ [x]) P2 ∧ Only F w (w2.setCell ⟨a, 1, none⟩ P2) ∧ (∀ b, F' b → F b ∨ w.heap.size ≤ b) ∧ (∀ (p : Addr) (v : Value), X.cell? p = some v → ¬ F p.block → w2.cell? p = some v) := by
  have hX := h.below hb
  have hx : ItM X (fun b => F b ∨ x.nv.ownBlock = some b ∨ x.iv.ownBlock = some b) x := ⟨hn.lower (Nat.zero_le _), hi.lower (Nat.zero_le _), fun b e => .inr e, hf⟩
  have hG : ∀ b, (F b ∨ x.nv.ownBlock = some b ∨ x.iv.ownBlock = some b) → b < X.heap.size := by
    rintro b (e | e | e)
    · exact hX.its.lt b e
    · exact (World.ownsRow.lt hn b e).2
    · exact (World.ownsRow.lt hi b e).2
  obtain ⟨P2, w2, hr, hP2, hits, hg, hbl⟩ := hX.its.run itemT 0 s hs hl hx (fun b e => .inl e) hG
  have ha : w2.heap[a]? = X.heap[a]? := hg.block a hX.lta (fun e => itT_ne.2.2 ((own_ty hX.its.row e.symm).one ⟨_, hX.head⟩))
  have hhead := ha.trans hX.head
  have hTy : Ty w2 a 56 := ⟨_, hhead⟩
  refine ⟨P2, w2, _, fun ty => hr, hP2, ?_, frozen_of_row w2 a 1 _ _ hhead, ⟨hits.set (p := ⟨a, 1, none⟩) hTy tbT_ne.1 tbT_ne.2.1 tbT_ne.2.2 P2, ?_, .inl (.inl h.fa)⟩, ?_, ?_, fun p v hp hF => (World.cell?_of_block (hg.block p.block (World.block_lt_of_cell? X p hp) (fun e => hF (h.its.frow _ e.symm)))).trans hp⟩
  · rw [cell_of_row w2 a _ _ _ (0, 0) hhead]; rfl
  · exact heap_setCell_same w2 a 1 _ _ P2 hhead
  · exact ((Only.of_below F hb).then (Only.grown F hg fun b e => h.its.frow b e)).then (Only.set F w2 (p := ⟨a, 1, none⟩) h.fa P2)
  · rintro b ((e | e | e) | e)
    · exact .inl e
    · exact .inr (World.ownsRow.lt hn b e).1
    · exact .inr (World.ownsRow.lt hi b e).1
    · rcases hbl b e with e | e
      · exact .inl (h.its.frow b e)
      · exact .inr (Nat.le_trans hb.size e)
end

section
variable {F G : Nat → Prop} {w w' : World} {a mo i : Nat} {l : List It} {P : Value}
set_option maxHeartbeats 1000000 in
theorem make_nil (A B : Option Addr) (n c m d : Nat) (r : Rc) (w : World) :
    Calls Try.prog 12 #[nilp, rcv (.slice A n c) (.slice B m d) r] w fun e w' => e = .returned (.tuple #[.int .i64 0, .bool false]) ∧ Below w.heap.size w w' := by
  obtain ⟨ns, is, kp, wy, od, nw⟩ := r
  go_enter Try.func12, Try.ntmps12
  go_wp2
  go_quiet (fail)
  go_wp2
  go_ret2
  exact ⟨rfl, by first | exact below_drewN (below_new _ _) _ | exact (below_new _ _).drew⟩

set_option maxHeartbeats 2000000 in
theorem make_no (h : Tb F w a mo l P) (A B : Option Addr) (n c m d : Nat) (r : Rc) (hno : n ≠ m ∨ r.kp < 0 ∨ mo ≤ l.length) :
    Calls Try.prog 12 #[ptr a, rcv (.slice A n c) (.slice B m d) r] w fun e w' => e = .returned (.tuple #[.int .i64 0, .bool false]) ∧ Below w.heap.size w w' := by
  obtain ⟨ns, is, kp, wy, od, nw⟩ := r
  simp only at hno
  obtain ⟨W, hW, hb, h6⟩ : ∃ W : World, w.alloc (.cells #[.slice A n c, .slice B m d, .int .i64 kp, .int .i64 wy, .int .i64 od, .int .i64 nw] 32) = W ∧ Below w.heap.size w W ∧ Six W w.heap.size (.slice A n c) (.slice B m d) kp wy od nw := ⟨_, rfl, below_new _ _, Six.new w rfl _ _ _ _ _ _⟩
  obtain ⟨c0, c1, -⟩ := (h.below hb).cells
  obtain ⟨A', c', rfl, -, -⟩ := h.its.form
  obtain ⟨d0, d1, d2, d3, d4, d5⟩ := h6.cells
  have HB := Lib.hid hb
  clear hb h h6
  generalize l.length = L at *
  generalize hR : w.heap.size = R at *
  by_cases h1 : n = m
  · subst h1
    by_cases h2 : kp < 0
    · clear hno
      go_enter Try.func12, Try.ntmps12
      go_wp2
      (try rw [hW])
      go_quiet (fail)
      go_wp2
      go_ret2
      exact ⟨rfl, by first | exact below_drewN HB.out _ | exact HB.out.drew⟩
    · have h3 : (mo : Int) ≤ (L : Int) := by omega
      clear hno
      go_enter Try.func12, Try.ntmps12
      go_wp2
      (try rw [hW])
      go_quiet (fail)
      go_wp2
      go_ret2
      exact ⟨rfl, by first | exact below_drewN HB.out _ | exact HB.out.drew⟩
  · clear hno
    have h2 : ((n : Int) != (m : Int)) = true := by simp; omega
    have h3 : ¬ ((n : Int) = (m : Int)) := by omega
    go_enter Try.func12, Try.ntmps12
    go_wp2
    (try rw [hW])
    go_quiet (fail)
    go_wp2
    go_ret2
    exact ⟨rfl, by first | exact below_drewN HB.out _ | exact HB.out.drew⟩
end
end Go.Proofs.Ytokheagoddmmiaa
