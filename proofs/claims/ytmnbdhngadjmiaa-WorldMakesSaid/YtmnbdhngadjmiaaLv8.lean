/-
  The law WorldLeaves.
-/
import Derived.Test.YtmnbdhngadjmiaaCl8
import Derived.Test.YtmnbdhngadjmiaaLawE
namespace Go.Proofs.Ytmnbdhngadjmiaa
open Go.ChangeShapes Go.WideShapes Go.ChangeAt Go.RowKit
set_option linter.unusedVariables false
set_option linter.unusedSimpArgs false
set_option maxRecDepth 20000

section
variable {P : Program} {ops : Array Oper} {Q : Exit → Act → World → Prop} {md : Region.Mode} {C : World → Prop} {st : Nat → Bool} {i j : Nat} {listed : Array Bool}
/-- With the slot named. -/
theorem takeX (i d : Nat) {oi : Oper} {v : Value} {n : Nat} {a : Act} {w : World} (hi : ops[i]? = some oi) (hd : oi.dst = some d)
    (hs : Region.noSelect ops = true) (hf : Region.free md ops listed i = true) (hr : (Region.ready md ops listed).contains i = true) (hcl : closedB md ops listed = true) (hwt : waitsW md ops st i = true)
    (hQ : ∀ c (a : Act) t w, Q (.panic c) { a with tmps := t } w → Q (.panic c) a w) (hC : C w) (hw : Region.wanted oi (yielded ops a.tmps) = true) (hy : ∀ w, C w → (execOp a.eval oi).run P w = .ok (.value v) w)
    (h : anyT P md ops Q C st n (listed.setIfInBounds i true) { a with tmps := a.tmps.setIfInBounds d v } w) : anyT P md ops Q C st (n + 1) listed a w :=
  takeW hi hs hf hr hcl hwt (fun c a w h => by rw [hd] at h; exact hQ c a _ w h) hC hw hy (by rw [hd]; exact h)
theorem skipX (i d : Nat) {oi : Oper} {n : Nat} {a : Act} {w : World} (hi : ops[i]? = some oi) (hd : oi.dst = some d)
    (hs : Region.noSelect ops = true) (hf : Region.free md ops listed i = true) (hr : (Region.ready md ops listed).contains i = true) (hcl : closedB md ops listed = true) (hwt : waitsW md ops st i = true)
    (hQ : ∀ c (a : Act) t w, Q (.panic c) { a with tmps := t } w → Q (.panic c) a w) (hC : C w) (hw : Region.wanted oi (yielded ops a.tmps) = false)
    (h : anyT P md ops Q C st n (listed.setIfInBounds i true) { a with tmps := a.tmps.setIfInBounds d undef } w) : anyT P md ops Q C st (n + 1) listed a w :=
  take_nowW (v := undef) hi (Region.noSelect_spec hs) (fun c a w h => by rw [hd] at h; exact hQ c a _ w h) hwt n listed a w (closed_of hcl) (Region.free_spec hi hf) (List.contains_iff_mem.1 hr) (.inr ⟨hw, rfl⟩) hC (by rw [hd]; exact h)
end

/-- A tagged node, and k of them made. -/
def tagNd (b : Bool) : Nd := ⟨false, b, [], [], []⟩
def tagPa (b : Bool) : Pa := ⟨true, 1, tagNd b, [], 0, false⟩
/-- Nodes made one behind the other; f says which are tagged. -/
def arK (m : Nat) (f : Nat → Bool) (k : Nat) : As := ⟨m, rootPa :: entryPa :: (List.range k).map (fun i => tagPa (f i)), [], 0⟩
def refK (k : Nat) : List Int := (List.range k).map fun (i : Nat) => mk ((i + 2 : Nat) : Int) 1
theorem refK_len (k : Nat) : (refK k).length = k := by simp [refK]
theorem refK_snoc (k : Nat) : refK (k + 1) = refK k ++ [mk ((k + 2 : Nat) : Int) 1] := by simp [refK, List.range_succ]
theorem refK_in (k : Nat) : ∀ r ∈ refK k, in64 r := by
  intro r hr
  obtain ⟨i, _, rfl⟩ := List.mem_map.1 hr
  have := mk_range ((i + 2 : Nat) : Int) 1
  unfold in64; omega
theorem refK_at {k j : Nat} (h : j < k) : (refK k)[j]? = some (mk ((j + 2 : Nat) : Int) 1) := by simp [refK, h]
theorem arK_len (m : Nat) (f : Nat → Bool) (k : Nat) : (arK m f k).pls.length = k + 2 := by simp [arK]
theorem arK_make (m : Nat) (f : Nat → Bool) (k : Nat) (h : k + 2 < m) : (arK m f k).make (tagNd (f k)) = (mk ((k + 2 : Nat) : Int) 1, arK m f (k + 1)) := by
  have hr : (arK m f k).room := by unfold As.room; rw [arK_len]; simp [arK]; omega
  have hn : (arK m f k).next = (k + 2, { arK m f k with pls := (arK m f k).pls ++ [Pa.nil] }) := by
    unfold As.next
    simp only [arK]
    simp
  have hc : (arK m f k).cntN = 0 := by
    unfold As.cntN
    rw [hn]
    simp only
    rw [List.getElem?_append_right (by rw [arK_len]; omega), arK_len]
    simp [Pa.nil]
  rw [As.make, if_pos hr, hc, hn]
  refine Prod.ext rfl ?_
  simp only [As.alloc, hn]
  have e : ((arK m f k).pls ++ [Pa.nil]).set (k + 2) (tagPa (f k)) = (arK m f (k + 1)).pls := by
    rw [List.set_append_right _ _ (by rw [arK_len]; omega), arK_len]
    simp [arK, List.range_succ]
  show (⟨_, ((arK m f k).pls ++ [Pa.nil]).set (k + 2) _, _, _⟩ : As) = _
  have e2 : (⟨true, 0 + 1, tagNd (f k), (tagNd (f k)).zs, 0, false⟩ : Pa) = tagPa (f k) := rfl
  rw [e2, e]
  rfl
theorem arK_hit (m : Nat) (f : Nat → Bool) (k j : Nat) (hj : j < k) (hk : k ≤ 1000) : (arK m f k).hit (mk ((j + 2 : Nat) : Int) 1) = some (j + 2, tagPa (f j)) := by
  have hp : (pl (mk ((j + 2 : Nat) : Int) 1)).toNat = j + 2 := by rw [pl_mk]; omega
  have hat : (arK m f k).pls[j + 2]? = some (tagPa (f j)) := by simp [arK, hj]
  unfold As.hit
  rw [hp, hat]
  simp only
  rw [if_pos ⟨rfl, rfl⟩]
/-- The world behind k nodes made. -/
def sL (nn k : Nat) : Sig := ⟨arK 30 (fun _ => true) k, (nn : Int), List.replicate 2 (-1, [])⟩
theorem inv_arK {m L B k : Nat} {f : Nat → Bool} {n : Int} {S : List Tq} (hL : L ≤ 64) (hk : k ≤ 100) (hB : B ≤ 900) (hl : S.length = L) (hn : 0 ≤ n ∧ n + B ≤ 100000) (hs : ∀ x ∈ S, in64 x.1) (hq : ∀ x ∈ S, x.2.length + B ≤ 1000 ∧ ∀ p ∈ x.2, in64 p.1 ∧ in64 p.2) : Inv L B ⟨arK m f k, n, S⟩ := by
  refine ⟨hl, hL, by simp only; rw [arK_len]; omega, ?_, by simp only [arK]; omega, by simp only [arK, List.length_nil]; omega, fun i hi => (by cases hi), hn, hs, hq⟩
  intro p hp
  simp only [arK, List.mem_cons, List.mem_map] at hp
  rcases hp with rfl | rfl | ⟨i, _, rfl⟩
  · simp only [rootPa]; omega
  · simp only [entryPa]; omega
  · simp only [tagPa]; omega
theorem inv_sL (nn k B : Nat) (hk : k ≤ 100) (hB : B ≤ 900) (hn : nn ≤ 900) : Inv 2 B (sL nn k) := by
  refine inv_arK (by omega) hk hB (by simp) (by omega) ?_ ?_
  · intro x hx
    obtain ⟨_, rfl⟩ := List.mem_replicate.1 hx
    exact in01.2.2
  · intro x hx
    obtain ⟨_, rfl⟩ := List.mem_replicate.1 hx
    exact ⟨by simp only [List.length_nil]; omega, fun p hp => by cases hp⟩
/-- The world behind Leave: thread 1 let these go. -/
def sV (nn k : Nat) (q : List Int) : Sig := ⟨arK 30 (fun _ => true) k, (nn : Int), [(-1, []), (-1, q.map fun r => (r, (nn : Int)))]⟩
theorem ev_leave (nn k : Nat) (l q : List Int) : ev (tLeave 1 l) (sV nn k q) = ((), sV nn k (q ++ l), 2 * l.length) := by
  induction l generalizing q with
  | nil => simp [tLeave, ev]
  | cons r l ih =>
    have e : (gLeave 1 r (sV nn k q).now (sV nn k q)).2 = sV nn k (q ++ [r]) := by simp [gLeave, sV]
    simp only [tLeave, ev, gNow]
    rw [e, ih]
    refine Prod.ext rfl (Prod.ext (by simp) ?_)
    simp only [List.length_cons]
    omega
theorem nxW_limbo {d : Wd} {FW : Nat → Prop} {w : World} {s : Sig} (h : WS d FW w s) (hf : Few s.S) : Calls Try.prog 32 #[ptr d.E] w fun e w' => e = .returned (.int .i64 (tot s.S : Int)) ∧ w = w' := by
  obtain ⟨FE, h1, h2, h3⟩ := h.ep
  exact limbo_walk h1 hf
theorem few_sV (nn k : Nat) (q : List Int) (hq : q.length ≤ 100) : Few (sV nn k q).S ∧ tot (sV nn k q).S = q.length := by
  refine ⟨⟨by simp [sV], ?_⟩, by simp [sV, tot]⟩
  intro x hx
  simp only [sV, List.mem_cons, List.not_mem_nil, or_false] at hx
  rcases hx with rfl | rfl
  · simp
  · simp; omega
theorem inv_sV (nn k B : Nat) (q : List Int) (hk : k ≤ 100) (hB : B ≤ 900) (hn : nn ≤ 900) (hq : q.length ≤ 50) (hr : ∀ r ∈ q, in64 r) : Inv 2 B (sV nn k q) := by
  refine inv_arK (by omega) hk hB (by simp) (by omega) ?_ ?_
  · intro x hx
    simp only [List.mem_cons, List.not_mem_nil, or_false] at hx
    rcases hx with rfl | rfl <;> exact in01.2.2
  · intro x hx
    simp only [List.mem_cons, List.not_mem_nil, or_false] at hx
    rcases hx with rfl | rfl
    · exact ⟨by simp only [List.length_nil]; omega, fun p hp => by cases hp⟩
    · refine ⟨by simp only [List.length_map]; omega, fun p hp => ?_⟩
      obtain ⟨r, hr', rfl⟩ := List.mem_map.1 hp
      exact ⟨hr r hr', by unfold in64; simp only; omega⟩
end Go.Proofs.Ytmnbdhngadjmiaa
