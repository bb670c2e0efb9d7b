/-
  Words for laws with an arena beside a row of references that were told.
-/
import Derived.Test.YtbalhjfkkigchaaLawE
namespace Go.Proofs.Ytbalhjfkkigchaa
open Go.ChangeShapes Go.WideShapes Go.ChangeAt Go.RowKit
set_option linter.unusedVariables false
set_option linter.unusedSimpArgs false
set_option maxRecDepth 20000

theorem own_raise {w : World} {base B : Nat} {e : TypeId} {size n : Nat} {v : Value} {xs : List Value} (h : w.ownsRow base e size v n xs) (hb : ∀ b, v.ownBlock = some b → B ≤ b) : w.ownsRow B e size v n xs := by
  obtain ⟨h1, h2⟩ := h
  refine ⟨h1, ?_⟩
  rcases h2 with h2 | ⟨g, cap, cur, rfl, hg, r⟩
  · exact .inl h2
  · exact .inr ⟨g, cap, cur, rfl, hb g rfl, r⟩

/-- The run of 'append(out, src...)', and where the row lies then. -/
theorem run_pushB {sl el : TypeId} (R : RowT sl el) {base : Nat} {w : World} (ty : TypeId) (v : Value) (zs : List Int) (hown : Row el base w v zs) (A : Option Addr) (n c : Nat) (ms : List Int) (hm : Sl w A n c ms) (hlen : zs.length + ms.length ≤ 100000) (hb : base ≤ w.heap.size) :
    ∃ v' w', (Builtin.append_ #[sl, sl] ty #[v, .slice A n c]).run Try.prog w = .ok v' w' ∧ Row el base w' v' (zs ++ ms) ∧ w.grownBy w' v.ownBlock ∧ ∀ b, v'.ownBlock = some b → v.ownBlock = some b ∨ w.heap.size ≤ b := by
  obtain ⟨i0, hi0, hz0, hz1, hz2⟩ := info_parts R.info
  have hn := hm.len
  cases A with
  | none =>
    have e : ms = [] := by
      rcases hm.cells with e | ⟨_, _, e, _⟩
      · exact e
      · cases e
    subst e
    obtain rfl : c = 0 := hm.none_ rfl
    obtain rfl : n = 0 := by simpa using hn
    exact ⟨v, w, run_append_owned_none (P := Try.prog) w base sl ty el i0 1 R.under hi0 v zs.length (ints zs) hown, by simpa using hown, World.grownBy.refl _ _, fun b e => .inl e⟩
  | some ad =>
    obtain ⟨v', w', h1, h2, h3, h4⟩ := run_push (w := w) sl ty el i0 _ 1 8 R.under hi0 hz0 hz1 hz2 rfl (by omega) v zs.length (ints zs) (own_lower hown (Nat.zero_le _)) ad n c (ints ms) (by rw [ints_length, hn]; omega)
      (by
        intro j u hj
        rcases hm.cells with e | ⟨b, off, e, hc⟩
        · subst e; simp [ints] at hj
        · have e := Option.some.inj e
          subst e
          obtain ⟨z, hz, rfl⟩ := ints_at hj
          have := hc j z hz
          unfold Addr.add
          split
          · rename_i e0; subst e0; exact this
          · exact this) (ints_one _) (by unfold maxLen; omega) (by omega)
    refine ⟨v', w', h1, ?_, h3, h4⟩
    unfold Row
    rw [List.length_append, ← hn, ints_append]
    refine own_raise h2 fun b e => ?_
    rcases h4 b e with h | h
    · exact (World.ownsRow.lt hown b h).1
    · omega
section
variable {sl el : TypeId} (R : RowT sl el) {ops : Array Oper} {rest : List Oper} {o : Oper} {a : Act} {Q : Exit → Act → World → Prop} {base : Nat} {w : World}
include R
theorem pushNB (hg : o.guard = none) (s x : Operand) (ho : o.op = .call { callee := .builtin .append, args := #[s, x], argTypes := #[sl, sl] })
    (v : Value) (zs : List Int) (hs : a.eval s = v) (hown : Row el base w v zs) (A : Option Addr) (n c : Nat) (ms : List Int) (hx : a.eval x = .slice A n c) (hm : Sl w A n c ms) (hlen : zs.length + ms.length ≤ 100000) (hb : base ≤ w.heap.size)
    (h : ∀ v' w', Row el base w' v' (zs ++ ms) → w.grownBy w' v.ownBlock → (∀ b, v'.ownBlock = some b → v.ownBlock = some b ∨ w.heap.size ≤ b) → wpList Try.prog ops Q rest (a.put o.dst v') w') :
    wpList Try.prog ops Q (o :: rest) a w := by
  obtain ⟨v', w', hr, h1, h2, h3⟩ := run_pushB R o.type v zs hown A n c ms hm hlen hb
  exact Lib.wpList_append_run (P := Try.prog) w hg s x sl sl ho v _ hs hx v' w' hr (h v' w' h1 h2 h3)
end

/-- An arena at a beside a row of references. -/
structure TI (w : World) (F : Nat → Prop) (a : Nat) (S : As) (tv : Value) (zs : List Int) (wr : World) : Prop where
  arn : Arn false F wr a S
  tol : Row 46 w.heap.size wr tv zs
  nf : ∀ c, tv.ownBlock = some c → ¬ F c
  low : ∀ c, F c → w.heap.size ≤ c
  below : Below w.heap.size w wr
section
variable {w wr wr' : World} {F : Nat → Prop} {a : Nat} {S S' : As} {tv : Value} {zs : List Int}
theorem TI.next (h : TI w F a S tv zs wr) (hb : Below wr.heap.size wr wr') : TI w F a S tv zs wr' :=
  ⟨h.arn.below hb, h.tol.next hb, h.nf, h.low, h.below.trans (hb.mono h.below.size)⟩
theorem TI.only (h : TI w F a S tv zs wr) (h1 : Arn false F wr' a S') (ho : Only F wr wr') : TI w F a S' tv zs wr' :=
  ⟨h1, own_at h.tol fun c e => ho.block c (World.ownsRow.lt h.tol c e).2 (h.nf c e), h.nf, h.low, h.below.trans (ho.below h.low h.below.size)⟩
theorem TI.nx (h : TI w F a S tv zs wr) (hn : Nx false F wr a S' wr') : ∃ F', TI w F' a S' tv zs wr' := by
  obtain ⟨F', h1, ho, h3⟩ := hn
  refine ⟨F', h1, own_at h.tol fun c e => ho.block c (World.ownsRow.lt h.tol c e).2 (h.nf c e), fun c e hF => ?_, fun c hF => ?_, h.below.trans (ho.below h.low h.below.size)⟩
  · rcases h3 c hF with h4 | h4
    · exact h.nf c e h4
    · have := (World.ownsRow.lt h.tol c e).2; omega
  · rcases h3 c hF with h4 | h4
    · exact h.low c h4
    · exact Nat.le_trans h.below.size h4
theorem TI.push (h : TI w F a S tv zs wr) {v' : Value} {zs' : List Int} (hr : Row 46 w.heap.size wr' v' zs') (hg : wr.grownBy wr' tv.ownBlock) (hb : ∀ b, v'.ownBlock = some b → tv.ownBlock = some b ∨ wr.heap.size ≤ b) : TI w F a S v' zs' wr' := by
  refine ⟨h.arn.only (Only.grown (fun c => tv.ownBlock = some c) hg (fun b e => e)) (fun c hF e => h.nf c e hF), hr, fun c e hF => ?_, h.low, h.below.grown hg h.below.size fun k e => (World.ownsRow.lt h.tol k e).1⟩
  rcases hb c e with h1 | h1
  · exact h.nf c h1 hF
  · have := h.arn.lt c hF; omega
end

/-- References of places that were used once. -/
def told (k : Nat) : List Int := (List.range k).map fun (i : Nat) => mk (i : Int) 1
theorem told_succ (k : Nat) : told (k + 1) = told k ++ [mk (k : Int) 1] := by unfold told; rw [List.range_succ, List.map_append]; rfl
theorem told_len (k : Nat) : (told k).length = k := by simp [told]
theorem told_at {k i : Nat} (h : i < k) : (told k).getD i 0 = mk (i : Int) 1 := by simp [told, List.getD, h]

/-- Small nodes put in one behind the other. -/
def putS (M : Nat) (l : List Sm) (f : Nat) : As := ⟨M, l.map fun s => Pa.one 1 s.nd, [], f⟩
theorem putS_ok (M : Nat) (l : List Sm) (f : Nat) (hl : l.length ≤ 70000) (hf : f ≤ 1000000) : Ok (putS M l f) := by
  refine ⟨by simpa [putS] using hl, fun p hp => ?_, hf, by simp [putS]⟩
  simp [putS] at hp
  obtain ⟨s, _, rfl⟩ := hp
  simp [Pa.one]
theorem putS_next (M : Nat) (l : List Sm) (f : Nat) : (putS M l f).next.1 = l.length ∧ ∃ pa, (putS M l f).next.2.pls[(putS M l f).next.1]? = some pa ∧ pa.cnt = 0 := by
  refine ⟨by simp [putS, As.next], Pa.nil, ?_, rfl⟩
  simp [putS, As.next]
theorem putS_alloc (M : Nat) (l : List Sm) (f : Nat) (s : Sm) : (putS M l f).alloc 1 s.nd = putS M (l ++ [s]) f := by
  simp only [putS, As.alloc, As.next, List.length_map]
  congr 1
  rw [List.set_append_right _ _ (by simp)]
  simp [Pa.one]
theorem putS_fault (M : Nat) (l : List Sm) (f : Nat) : (putS M l f).fault = putS M l (f + 1) := rfl
theorem putS_hit {M : Nat} {l : List Sm} {f : Nat} {r : Int} (h : ∀ i, i < l.length → mk (i : Int) 1 ≠ r) : ∀ i, ¬ Hit (putS M l f) r i := by
  rintro i ⟨p, hp, _, hm⟩
  simp [putS] at hp
  obtain ⟨s, hs, rfl⟩ := hp
  exact h i (List.getElem?_eq_some_iff.1 hs).1 hm
theorem putS_at {M : Nat} {l : List Sm} {f : Nat} {i : Nat} {s : Sm} (h : l[i]? = some s) : (putS M l f).pls[i]? = some (Pa.one 1 s.nd) := by simp [putS, h]

/-- An element of a slice of small nodes. -/
theorem Sts.at_ {w w' : World} {A : Option Addr} {n : Nat} {l : List Sm} (h : Sts SmC 4 w A n l) (hb : Below w.heap.size w w') {k : Nat} (hk : k < n) : ∃ g off s A1 n1 c1 B1 m1 d1, A = some ⟨g, off, none⟩ ∧ g < w.heap.size ∧ l[k]? = some s ∧ w'.cell? ⟨g, off + k * 4, none⟩ = some (.bool s.x) ∧ w'.cell? ⟨g, off + k * 4 + 1, none⟩ = some (.bool s.y) ∧ w'.cell? ⟨g, off + k * 4 + 2, none⟩ = some (.slice A1 n1 c1) ∧ w'.cell? ⟨g, off + k * 4 + 3, none⟩ = some (.slice B1 m1 d1) ∧ Sk .i8 (-128) 127 w A1 n1 s.ks ∧ Sk .u8 0 255 w B1 m1 s.ws := by
  obtain ⟨h1, _, h2⟩ := h
  have hl : k < l.length := by omega
  rcases h2 with rfl | ⟨b, off, rfl, hc⟩
  · simp at hl
  · obtain ⟨cs, hcl, hcc, A1, n1, c1, B1, m1, d1, rfl, s1, s2⟩ := hc k _ (List.getElem?_eq_getElem hl)
    have t0 := hcc 0 _ rfl
    have t1 := hcc 1 _ rfl
    have t2 := hcc 2 _ rfl
    have t3 := hcc 3 _ rfl
    have hg := World.block_lt_of_cell? w _ t0
    exact ⟨b, off, _, A1, n1, c1, B1, m1, d1, rfl, hg, List.getElem?_eq_getElem hl, (hb.cell (p := ⟨b, off + k * 4, none⟩) hg).trans t0, (hb.cell (p := ⟨b, off + k * 4 + 1, none⟩) hg).trans t1, (hb.cell (p := ⟨b, off + k * 4 + 2, none⟩) hg).trans t2, (hb.cell (p := ⟨b, off + k * 4 + 3, none⟩) hg).trans t3, s1, s2⟩
end Go.Proofs.Ytbalhjfkkigchaa
