/-
  The program's epochs beside the document's: what the calls of the one, and of the other, make of both.
-/
import Derived.Test.YtcainkobdkaaeaaDn7
import Derived.Test.YtcainkobdkaaeaaSts7
namespace Go.Proofs.Ytcainkobdkaaeaa
open Go.ChangeShapes Go.WideShapes Go.ChangeAt Go.RowKit
set_option linter.unusedVariables false
set_option linter.unusedSimpArgs false
set_option maxRecDepth 20000

section
variable {F G : Nat → Prop} {w w' : World} {d i : Nat} {now t n : Int} {S : List Tq} {q : List (Int × Int)} {s : Int}
theorem take_all (h : DeS F w d now S) (hi : S[i]? = some (s, q)) (hq : ∀ p ∈ q, -9223372036854775808 ≤ p.2) (hn : n ≤ 9223372036854775807) (hl : q.length ≤ 1000) : Calls Try.prog 17 #[ptr d, .int .i64 (i : Int), .int .i64 n] w fun e w' => e = .returned (.int .i64 (tk q n).1) ∧ NxD F w d now (S.set i (s, (tk q n).2)) w' := by
  cases q with
  | nil =>
    refine (take_empty h hi).mono ?_
    rintro e w1 ⟨rfl, rfl⟩
    exact ⟨rfl, by rw [show (tk [] n).2 = [] from rfl, set_same hi]; exact NxD.same h⟩
  | cons p r =>
    cases hr : rdy p.2 n with
    | false =>
      refine (take_wait h hi (hq p (List.mem_cons_self ..)) hn hr).mono ?_
      rintro e w1 ⟨rfl, rfl⟩
      exact ⟨by simp [tk, hr], by simp only [tk, hr, Bool.false_eq_true, if_false]; rw [set_same hi]; exact NxD.same h⟩
    | true =>
      refine (take_yes h hi (hq p (List.mem_cons_self ..)) hn hr (by simp at hl; omega)).mono ?_
      rintro e w1 ⟨rfl, hb⟩
      exact ⟨by simp [tk, hr], by simp only [tk, hr, if_true]; exact hb⟩
end
/-- The threads, with queues of k nodes at most, each of an epoch that there is. -/
def Ok (k : Nat) (S : List Tq) : Prop := S.length ≤ 64 ∧ ∀ x ∈ S, x.2.length ≤ k ∧ ∀ p ∈ x.2, -9223372036854775808 ≤ p.2
theorem Ok.few {k : Nat} {S : List Tq} (h : Ok k S) (hk : k ≤ 1000) : Few S := ⟨h.1, fun x hx => Nat.le_trans (h.2 x hx).1 hk⟩
theorem Ok.mono {k k' : Nat} {S : List Tq} (h : Ok k S) (hk : k ≤ k') : Ok k' S := ⟨h.1, fun x hx => ⟨Nat.le_trans (h.2 x hx).1 hk, (h.2 x hx).2⟩⟩
theorem Ok.set {k : Nat} {S : List Tq} (h : Ok k S) (i : Nat) {y : Tq} (hy : y.2.length ≤ k ∧ ∀ p ∈ y.2, -9223372036854775808 ≤ p.2) : Ok k (S.set i y) := by
  refine ⟨by rw [List.length_set]; exact h.1, fun x hx => ?_⟩
  rcases List.mem_or_eq_of_mem_set hx with hx | rfl
  · exact h.2 x hx
  · exact hy
theorem tk_ok {q : List (Int × Int)} {n : Int} {k : Nat} (h : q.length ≤ k ∧ ∀ p ∈ q, -9223372036854775808 ≤ p.2) : (tk q n).2.length ≤ k ∧ ∀ p ∈ (tk q n).2, -9223372036854775808 ≤ p.2 := by
  cases q with
  | nil => exact ⟨by simp [tk], by simp [tk]⟩
  | cons p r =>
    simp only [tk]
    split
    · exact ⟨by have := h.1; simp at this ⊢; omega, fun y hy => h.2 y (List.mem_cons_of_mem _ hy)⟩
    · exact h
/-- What Ready tells of a thread, and what it leaves. -/
def rdS (S : List Tq) (t n : Int) : Int × List Tq :=
  if 0 ≤ t then
    match S[t.toNat]? with
    | some y => ((tk y.2 n).1, S.set t.toNat (y.1, (tk y.2 n).2))
    | none => (0, S)
  else (0, S)
theorem rdS_ok {S : List Tq} {t n : Int} {k : Nat} (h : Ok k S) : Ok k (rdS S t n).2 := by
  unfold rdS
  split
  · cases e : S[t.toNat]? with
    | none => exact h
    | some y => exact h.set _ (tk_ok (h.2 y (List.mem_of_getElem? e)))
  · exact h
section
variable {F G : Nat → Prop} {w w' : World} {a d i k : Nat} {now t n : Int} {S : List Tq}
theorem out_range (h0 : 0 ≤ t) (h : S[t.toNat]? = none) : t < 0 ∨ (S.length : Int) ≤ t := by
  rw [List.getElem?_eq_none_iff] at h
  omega
theorem rd_S (h : EpS F w a now S) (hk : Ok k S) (hn : n ≤ 9223372036854775807) : Calls Try.prog 16 #[ptr a, .int .i64 t, .int .i64 n] w fun e w' => e = .returned (.int .i64 (rdS S t n).1) ∧ NxE F w a now (rdS S t n).2 w' := by
  unfold rdS
  split
  · rename_i h0
    cases e : S[t.toNat]? with
    | none =>
      refine (rd_no h n (out_range h0 e)).mono ?_
      rintro e w1 ⟨rfl, rfl⟩
      exact ⟨rfl, NxE.same h⟩
    | some y =>
      have ht : t = (t.toNat : Int) := by omega
      have := rd_all h (n := n) (s := y.1) (q := y.2) e (hk.2 y (List.mem_of_getElem? e)).2 hn
      rw [← ht] at this
      exact this
  · refine (rd_no h n (by omega)).mono ?_
    rintro e w1 ⟨rfl, rfl⟩
    exact ⟨rfl, NxE.same h⟩
theorem take_S (h : DeS F w d now S) (hk : Ok k S) (hk1 : k ≤ 1000) (hn : n ≤ 9223372036854775807) : Calls Try.prog 17 #[ptr d, .int .i64 t, .int .i64 n] w fun e w' => e = .returned (.int .i64 (rdS S t n).1) ∧ NxD F w d now (rdS S t n).2 w' := by
  unfold rdS
  split
  · rename_i h0
    cases e : S[t.toNat]? with
    | none =>
      refine (take_no h (out_range h0 e)).mono ?_
      rintro e w1 ⟨rfl, rfl⟩
      exact ⟨rfl, NxD.same h⟩
    | some y =>
      have ht : t = (t.toNat : Int) := by omega
      have := take_all h (n := n) (s := y.1) (q := y.2) e (hk.2 y (List.mem_of_getElem? e)).2 hn (Nat.le_trans (hk.2 y (List.mem_of_getElem? e)).1 hk1)
      rw [← ht] at this
      exact this
  · refine (take_no h (by omega)).mono ?_
    rintro e w1 ⟨rfl, rfl⟩
    exact ⟨rfl, NxD.same h⟩
end

/-- Both side by side, and blocks K beside them that stay. -/
structure RI (w : World) (F G : Nat → Prop) (a d : Nat) (n1 : Int) (S1 : List Tq) (n2 : Int) (S2 : List Tq) (K : List (Nat × Array Value × TypeId)) (wr : World) : Prop where
  ep : EpS F wr a n1 S1
  de : DeS G wr d n2 S2
  dis : ∀ b, F b → ¬ G b
  fup : ∀ b, F b → w.heap.size ≤ b
  gup : ∀ b, G b → w.heap.size ≤ b
  below : Below w.heap.size w wr
  keep : ∀ y ∈ K, wr.heap[y.1]? = some (.cells y.2.1 y.2.2 (0, 0)) ∧ ¬ F y.1 ∧ ¬ G y.1
def RR (w : World) (a d : Nat) (n1 : Int) (S1 : List Tq) (n2 : Int) (S2 : List Tq) (K : List (Nat × Array Value × TypeId)) (wr : World) : Prop := ∃ F G, RI w F G a d n1 S1 n2 S2 K wr
section
variable {F G : Nat → Prop} {w wr w' : World} {a d i : Nat} {n1 n2 n1' n2' : Int} {S1 S2 S1' S2' : List Tq} {K K' : List (Nat × Array Value × TypeId)}
theorem RI.klt (h : RI w F G a d n1 S1 n2 S2 K wr) {y : Nat × Array Value × TypeId} (hy : y ∈ K) : y.1 < wr.heap.size := (Array.getElem?_eq_some_iff.1 (h.keep y hy).1).1
theorem RI.next (h : RI w F G a d n1 S1 n2 S2 K wr) (hb : Below wr.heap.size wr w') : RI w F G a d n1 S1 n2 S2 K w' :=
  ⟨h.ep.below hb, h.de.below hb, h.dis, h.fup, h.gup, h.below.trans (hb.mono h.below.size), fun y hy => ⟨(hb.block y.1 (h.klt hy)).trans (h.keep y hy).1, (h.keep y hy).2⟩⟩
theorem RI.nxE (h : RI w F G a d n1 S1 n2 S2 K wr) (hn : NxE F wr a n1' S1' w') : RR w a d n1' S1' n2 S2 K w' := by
  obtain ⟨F', h1, h2, h3⟩ := hn
  refine ⟨F', G, h1, h.de.only h2 (fun b hG hF => h.dis b hF hG), fun b hF hG => ?_, fun b hF => ?_, h.gup, h.below.trans (h2.below h.fup h.below.size), fun y hy => ?_⟩
  · rcases h3 b hF with e | e
    · exact h.dis b e hG
    · have := h.de.lt b hG; omega
  · rcases h3 b hF with e | e
    · exact h.fup b e
    · exact Nat.le_trans h.below.size e
  · obtain ⟨k1, k2, k3⟩ := h.keep y hy
    refine ⟨(h2.block y.1 (h.klt hy) k2).trans k1, fun hF => ?_, k3⟩
    rcases h3 y.1 hF with e | e
    · exact k2 e
    · have := h.klt hy; omega
theorem RI.nxD (h : RI w F G a d n1 S1 n2 S2 K wr) (hn : NxD G wr d n2' S2' w') : RR w a d n1 S1 n2' S2' K w' := by
  obtain ⟨G', h1, h2, h3⟩ := hn
  refine ⟨F, G', h.ep.only h2 (fun b hF hG => h.dis b hF hG), h1, fun b hF hG => ?_, h.fup, fun b hG => ?_, h.below.trans (h2.below h.gup h.below.size), fun y hy => ?_⟩
  · rcases h3 b hG with e | e
    · exact h.dis b hF e
    · have := h.ep.lt b hF; omega
  · rcases h3 b hG with e | e
    · exact h.gup b e
    · exact Nat.le_trans h.below.size e
  · obtain ⟨k1, k2, k3⟩ := h.keep y hy
    refine ⟨(h2.block y.1 (h.klt hy) k3).trans k1, k2, fun hF => ?_⟩
    rcases h3 y.1 hF with e | e
    · exact k3 e
    · have := h.klt hy; omega
/-- A block more. -/
theorem RI.add (h : RI w F G a d n1 S1 n2 S2 K wr) (cs : Array Value) (t : TypeId) : RI w F G a d n1 S1 n2 S2 ((wr.heap.size, cs, t) :: K) (wr.alloc (.cells cs t)) := by
  have hb := below_new wr (.cells cs t)
  refine ⟨h.ep.below hb, h.de.below hb, h.dis, h.fup, h.gup, h.below.trans (hb.mono h.below.size), fun y hy => ?_⟩
  rw [List.mem_cons] at hy
  rcases hy with rfl | hy
  · exact ⟨heap_alloc_new wr _, fun e => by have := h.ep.lt _ e; simp only at this; omega, fun e => by have := h.de.lt _ e; simp only at this; omega⟩
  · exact ⟨(hb.block y.1 (h.klt hy)).trans (h.keep y hy).1, (h.keep y hy).2⟩
theorem RI.sub (h : RI w F G a d n1 S1 n2 S2 K wr) (hs : ∀ y ∈ K', y ∈ K) : RI w F G a d n1 S1 n2 S2 K' wr := ⟨h.ep, h.de, h.dis, h.fup, h.gup, h.below, fun y hy => h.keep y (hs y hy)⟩
theorem RR.next (h : RR w a d n1 S1 n2 S2 K wr) (hb : Below wr.heap.size wr w') : RR w a d n1 S1 n2 S2 K w' := by obtain ⟨F, G, h⟩ := h; exact ⟨F, G, h.next hb⟩
theorem RR.below (h : RR w a d n1 S1 n2 S2 K wr) : Below w.heap.size w wr := by obtain ⟨F, G, h⟩ := h; exact h.below
theorem RR.drewN (h : RR w a d n1 S1 n2 S2 K wr) (n : Nat) : RR w a d n1 S1 n2 S2 K (wr.drewN n) := h.next (below_drewN (Below.refl _ _) n)
theorem RR.add (h : RR w a d n1 S1 n2 S2 K wr) (cs : Array Value) (t : TypeId) : RR w a d n1 S1 n2 S2 ((wr.heap.size, cs, t) :: K) (wr.alloc (.cells cs t)) := by obtain ⟨F, G, h⟩ := h; exact ⟨F, G, h.add cs t⟩
theorem RR.sub (h : RR w a d n1 S1 n2 S2 K wr) (hs : ∀ y ∈ K', y ∈ K) : RR w a d n1 S1 n2 S2 K' wr := by obtain ⟨F, G, h⟩ := h; exact ⟨F, G, h.sub hs⟩
theorem RR.at_ (h : RR w a d n1 S1 n2 S2 K wr) {y : Nat × Array Value × TypeId} (hy : y ∈ K) : wr.heap[y.1]? = some (.cells y.2.1 y.2.2 (0, 0)) := by obtain ⟨F, G, h⟩ := h; exact (h.keep y hy).1
theorem RR.callE {f : FuncId} {args : Array Value} {r : Ending} (h : RR w a d n1 S1 n2 S2 K wr) (hP : ∀ F, EpS F wr a n1 S1 → Calls Try.prog f args wr fun e w' => e = r ∧ NxE F wr a n1' S1' w') : Calls Try.prog f args wr fun e w' => e = r ∧ RR w a d n1' S1' n2 S2 K w' := by
  obtain ⟨F, G, h⟩ := h
  exact (hP F h.ep).mono fun e w' ⟨h1, h2⟩ => ⟨h1, h.nxE h2⟩
theorem RR.callD {f : FuncId} {args : Array Value} {r : Ending} (h : RR w a d n1 S1 n2 S2 K wr) (hP : ∀ G, DeS G wr d n2 S2 → Calls Try.prog f args wr fun e w' => e = r ∧ NxD G wr d n2' S2' w') : Calls Try.prog f args wr fun e w' => e = r ∧ RR w a d n1 S1 n2' S2' K w' := by
  obtain ⟨F, G, h⟩ := h
  exact (hP G h.de).mono fun e w' ⟨h1, h2⟩ => ⟨h1, h.nxD h2⟩
theorem RR.readE {f : FuncId} {args : Array Value} {r : Ending} (h : RR w a d n1 S1 n2 S2 K wr) (hP : ∀ F, EpS F wr a n1 S1 → Calls Try.prog f args wr fun e w' => e = r ∧ wr = w') : Calls Try.prog f args wr fun e w' => e = r ∧ wr = w' := by
  obtain ⟨F, G, h⟩ := h
  exact hP F h.ep
/-- A call that only reads, in a region that draws. -/
theorem RR.quietE {f : FuncId} {args : Array Value} {v : Value} (h : RR w a d n1 S1 n2 S2 K wr) (hP : ∀ F w, EpS F w a n1 S1 → Calls Try.prog f args w fun e w' => e = .returned v ∧ w = w') (n : Nat) : Calls Try.prog f args (wr.drewN n) fun e w'' => e = .returned v ∧ ∃ m, w'' = wr.drewN m := by
  obtain ⟨F, G, h⟩ := h.drewN n
  exact (hP F _ h.ep).mono fun e w' ⟨h1, h2⟩ => ⟨h1, n, h2.symm⟩
theorem RR.quietD {f : FuncId} {args : Array Value} {v : Value} (h : RR w a d n1 S1 n2 S2 K wr) (hP : ∀ F w, DeS F w d n2 S2 → Calls Try.prog f args w fun e w' => e = .returned v ∧ w = w') (n : Nat) : Calls Try.prog f args (wr.drewN n) fun e w'' => e = .returned v ∧ ∃ m, w'' = wr.drewN m := by
  obtain ⟨F, G, h⟩ := h.drewN n
  exact (hP G _ h.de).mono fun e w' ⟨h1, h2⟩ => ⟨h1, n, h2.symm⟩
/-- The document's cells. -/
theorem RR.cells (h : RR w a d n1 S1 n2 S2 K wr) : wr.cell? ⟨d, 0, none⟩ = some (.int .i64 n2) ∧ wr.frozen? ⟨d, 0, none⟩ = false ∧ (∃ A c, wr.cell? ⟨d, 1, none⟩ = some (.slice A S2.length c)) ∧ RR w a d n1 S1 (n2 + 1) S2 K (wr.setCell ⟨d, 0, none⟩ (.int .i64 (n2 + 1))) := by
  obtain ⟨F, G, h⟩ := h
  obtain ⟨l, Sv, L, hd, rfl⟩ := h.de
  obtain ⟨c0, c1, c2⟩ := hd.cells
  obtain ⟨A, c, hS, -⟩ := hd.said.form
  refine ⟨c0, hd.free 0, ⟨A, c, by rw [c1, hS]; simp⟩, h.nxD ⟨G, ⟨l, Sv, L, (hd.next _).1, rfl⟩, (hd.next _).2, fun b e => .inl e⟩⟩
/-- What a thread announced, in the document's. -/
theorem RR.said (h : RR w a d n1 S1 n2 S2 K wr) {y : Tq} (hi : S2[i]? = some y) : ∃ g c, wr.cell? ⟨d, 1, none⟩ = some (.slice (some ⟨g, 0, none⟩) S2.length c) ∧ wr.cell? ⟨g, i, none⟩ = some (.int .i64 y.1) ∧ wr.frozen? ⟨g, i, none⟩ = false ∧ ∀ z, RR w a d n1 S1 n2 (S2.set i (z, y.2)) K (wr.setCell ⟨g, i, none⟩ (.int .i64 z)) := by
  obtain ⟨F, G, h⟩ := h
  obtain ⟨l, Sv, L, x, hd, rfl, hx, rfl⟩ := h.de.at_ hi
  obtain ⟨c0, c1, c2⟩ := hd.cells
  have hil : i < l.length := (List.getElem?_eq_some_iff.1 hx).1
  obtain ⟨g, c, hS, hc, hf, hp⟩ := hd.saidAt (i := i) (by simpa using hil)
  refine ⟨g, c, by rw [c1, hS]; simp, ?_, hf, fun z => h.nxD ⟨G, ⟨l.set i ((z, x.1.2), x.2), Sv, L, ?_, by rw [List.map_set]⟩, (hp z).2, fun b e => .inl e⟩⟩
  · rw [hc]
    simp [List.getD, hx]
  · have := (hp z).1
    rw [List.map_set]
    refine ⟨this.lt, this.head, this.fa, this.said, this.fsaid, ?_⟩
    have hq := this.qs
    have hcD : cD (l.set i ((z, x.1.2), x.2)) = cD l := by
      rw [← cD_set]
      apply List.ext_getElem?
      intro j
      rw [List.getElem?_set]
      by_cases e : i = j
      · subst e
        rw [if_pos rfl, if_pos (by simp [cD]; exact hil), cD_at hx]
      · rw [if_neg e]
    have hkey : ∀ (j : Nat) (u : Tq × Value), (l.set i ((z, x.1.2), x.2))[j]? = some u → ∃ u', l[j]? = some u' ∧ u'.2 = u.2 ∧ u'.1.2 = u.1.2 := by
      intro j u hu
      rw [List.getElem?_set] at hu
      by_cases e : i = j
      · subst e
        rw [if_pos rfl, if_pos hil] at hu
        injection hu with hu; subst hu
        exact ⟨x, hx, rfl, rfl⟩
      · rw [if_neg e] at hu
        exact ⟨u, hu, rfl, rfl⟩
    refine ⟨by rw [hcD, List.length_set]; exact hq.row, hq.frow, fun u hu => ?_, fun u hu b e => ?_, fun a b u v g' ha hb e1 e2 => ?_⟩
    · obtain ⟨j, hj⟩ := List.getElem?_of_mem hu
      obtain ⟨u', h1, h2, h3⟩ := hkey j u hj
      rw [← h2, ← h3]
      exact hq.que u' (List.mem_of_getElem? h1)
    · obtain ⟨j, hj⟩ := List.getElem?_of_mem hu
      obtain ⟨u', h1, h2, h3⟩ := hkey j u hj
      exact hq.fque u' (List.mem_of_getElem? h1) b (by rw [h2]; exact e)
    · obtain ⟨u', h1, h2, h3⟩ := hkey a u ha
      obtain ⟨v', k1, k2, k3⟩ := hkey b v hb
      exact hq.sep a b u' v' g' h1 k1 (by rw [h2]; exact e1) (by rw [k2]; exact e2)
/-- The document's queue of a thread, with one more: what is appended to, and what stands behind the store. -/
theorem RR.queue (h : RR w a d n1 S1 n2 S2 K wr) {y : Tq} (hi : S2[i]? = some y) (hl : y.2.length ≤ 1000) : ∃ g c A m e, wr.cell? ⟨d, 2, none⟩ = some (.slice (some ⟨g, 0, none⟩) S2.length c) ∧ wr.cell? ⟨g, i, none⟩ = some (.slice A m e) ∧
    ∀ (X : World) (s : Nat) (z t : Int), Below wr.heap.size wr X → X.cell? ⟨s, 0, none⟩ = some (.int .i64 z) → X.cell? ⟨s, 1, none⟩ = some (.int .i64 t) → ∃ A' m' e' X', (Builtin.append_ #[slT, slT] slT #[.slice A m e, .slice (some ⟨s, 0, none⟩) 1 1]).run Try.prog X = .ok (.slice A' m' e') X' ∧
      RR w a d n1 S1 n2 (S2.set i (y.1, y.2 ++ [(z, t)])) K (X'.setCell ⟨g, i, none⟩ (.slice A' m' e')) ∧ X'.cell? ⟨g, i, none⟩ = some (.slice A m e) ∧ X'.frozen? ⟨g, i, none⟩ = false ∧ (∀ u ∈ K, X'.heap[u.1]? = some (.cells u.2.1 u.2.2 (0, 0))) ∧ X'.cell? ⟨d, 2, none⟩ = some (.slice (some ⟨g, 0, none⟩) S2.length c) := by
  obtain ⟨F, G, h⟩ := h
  obtain ⟨l, Sv, L, x, hd, rfl, hx, rfl⟩ := h.de.at_ hi
  obtain ⟨c0, c1, c2⟩ := hd.cells
  obtain ⟨g, c, hT, -, -, hil, d1, -⟩ := hd.qAt hx
  obtain ⟨A, e, hv⟩ := (hd.qs.que x (List.mem_of_getElem? hx)).form
  refine ⟨g, c, A, x.1.2.length, e, by rw [c2, hT]; simp, by rw [d1, hv], fun X s z t hb hs0 hs1 => ?_⟩
  have hX := h.next hb
  have hdX := hd.below hb
  have hqX := hdX.qs.que x (List.mem_of_getElem? hx)
  obtain ⟨v', X', hr, hq2, hg2, hb2⟩ := hqX.push paD slT s (p := (z, t)) hs0 hs1 (by omega)
  obtain ⟨A', e', hv'⟩ := hq2.form
  subst hv'
  obtain ⟨hn, e1, e2⟩ := hdX.queue hx hg2 hq2 hb2 hT rfl
  rw [hv] at hr e1
  refine ⟨A', _, e', X', hr, hX.nxD hn, e1, e2, fun u hu => ?_, ?_⟩
  · obtain ⟨k1, k2, k3⟩ := hX.keep u hu
    rw [hg2.block u.1 (hX.klt hu) (fun eb => k3 (hdX.qs.fque x (List.mem_of_getElem? hx) u.1 eb.symm))]
    exact k1
  · obtain ⟨m1, m2, m3, m4, m5, m6⟩ := de_ne
    have hdd : X'.heap[d]? = _ := (hg2.block d (hdX.lt d hdX.fa) (fun eb => m1 (hdX.tyD.one (hqX.ty eb.symm)))).trans hdX.head
    rw [cell_of_row X' d _ _ _ (0, 0) hdd, hT]
    simp
/-- The same, of a slice that is known. -/
theorem RR.saidT (h : RR w a d n1 S1 n2 S2 K wr) {y : Tq} (hi : S2[i]? = some y) {g n c : Nat} (e : wr.cell? ⟨d, 1, none⟩ = some (.slice (some ⟨g, 0, none⟩) n c)) : wr.cell? ⟨g, i, none⟩ = some (.int .i64 y.1) ∧ wr.frozen? ⟨g, i, none⟩ = false ∧ ∀ z, RR w a d n1 S1 n2 (S2.set i (z, y.2)) K (wr.setCell ⟨g, i, none⟩ (.int .i64 z)) := by
  obtain ⟨g', c', h1, h2, h3, h4⟩ := h.said hi
  rw [e] at h1
  injection h1 with h1
  injection h1 with h1
  injection h1 with h1
  injection h1 with h1
  subst h1
  exact ⟨h2, h3, h4⟩
end
end Go.Proofs.Ytcainkobdkaaeaa
