/-
  The laws' worlds as plain data; what a helper's touches make of them, and what comes of a helper alone. No function of the program in sight.
-/
import Derived.Test.YtcegianjpifnbaaGreatGa10
import Derived.Test.YtcegianjpifnbaaGreatEv8
namespace Go.Proofs.YtcegianjpifnbaaGreat
set_option linter.unusedVariables false
set_option linter.unusedSimpArgs false
set_option maxRecDepth 20000

/-- A node of the laws': its record, whether it goes, its two ways. -/
structure Ns where
  inf : Int
  mark : Bool
  w0 : Int
  w1 : Int
def nodeNd (i : Nat) : Nd := ⟨true, false, [], [5], [200 + 10 * (i : Int), 201 + 10 * (i : Int)]⟩
def nodePa (i : Nat) (x : Ns) : Pa := ⟨true, 1, nodeNd i, [x.w0, x.w1], x.inf, x.mark⟩
def arN (f : Nat → Ns) (k : Nat) : As := ⟨60, rootPa :: entryPa :: (List.range k).map (fun i => nodePa i (f i)), [], 0⟩
def sN (L k : Nat) (f : Nat → Ns) (rs : List Re) : Sig := ⟨arN f k, 0, List.replicate L (-1, []), rs⟩
def ns0 (i : Nat) : Ns := ⟨0, false, 200 + 10 * (i : Int), 201 + 10 * (i : Int)⟩
abbrev rfN (i : Nat) : Int := mk ((i + 2 : Nat) : Int) 1
section
variable {L k i B : Nat} {f : Nat → Ns} {rs : List Re} {o n r : Int} {s : Sig}
theorem arN_len : (arN f k).pls.length = k + 2 := by simp [arN]
theorem arN_at (h : i < k) : (arN f k).pls[i + 2]? = some (nodePa i (f i)) := by simp [arN, h]
theorem arN_hit (h : i < k) (hk : k ≤ 1000) : (arN f k).hit (rfN i) = some (i + 2, nodePa i (f i)) := by
  unfold As.hit
  rw [show (pl (rfN i)).toNat = i + 2 from by rw [pl_mk]; omega, arN_at h]
  simp only
  rw [if_pos ⟨rfl, rfl⟩]
theorem arN_put (x : Ns) (h : i < k) : (arN f k).put (i + 2) (nodePa i x) = arN (upd f i x) k := by
  have e : (arN f k).pls.set (i + 2) (nodePa i x) = (arN (upd f i x) k).pls := by
    apply List.ext_getElem?
    intro j
    rw [List.getElem?_set]
    by_cases e : i + 2 = j
    · subst e
      rw [if_pos rfl, if_pos (by rw [arN_len]; omega), arN_at h, upd_at]
    · rw [if_neg e]
      match j, e with
      | 0, _ => rfl
      | 1, _ => rfl
      | j + 2, e =>
        by_cases hj : j < k
        · rw [arN_at hj, arN_at hj, upd_ne _ _ (by omega)]
        · simp [arN, hj]
  show (⟨60, (arN f k).pls.set (i + 2) (nodePa i x), [], 0⟩ : As) = _
  rw [e]; rfl
theorem arN_make (h : k + 2 < 60) (hf : f k = ns0 k) : (arN f k).make (nodeNd k) = (rfN k, arN f (k + 1)) := by
  have hr : (arN f k).room := by unfold As.room; rw [arN_len]; simp [arN]; omega
  have hn : (arN f k).next = (k + 2, { arN f k with pls := (arN f k).pls ++ [Pa.nil] }) := by
    unfold As.next
    simp only [arN]
    simp
  have hc : (arN f k).cntN = 0 := by
    unfold As.cntN
    rw [hn]
    simp only
    rw [List.getElem?_append_right (by rw [arN_len]; omega), arN_len]
    simp [Pa.nil]
  have e : ((arN f k).pls ++ [Pa.nil]).set (k + 2) (nodePa k (f k)) = (arN f (k + 1)).pls := by
    rw [List.set_append_right _ _ (by rw [arN_len]; omega), arN_len]
    simp [arN, List.range_succ]
  rw [As.make, if_pos hr, hc]
  unfold As.alloc
  rw [hn]
  refine Prod.ext rfl ?_
  simp only
  have e2 : (⟨true, 0 + 1, nodeNd k, (nodeNd k).zs, 0, false⟩ : Pa) = nodePa k (f k) := by rw [hf]; rfl
  rw [e2, e]
  rfl
theorem g_swapInfo (h : i < k) (hk : k ≤ 1000) (o n : Int) : gSwapInfo (rfN i) o n (sN L k f rs) = if (f i).inf = o then (1, sN L k (upd f i { f i with inf := n }) rs) else (0, sN L k f rs) := by
  simp only [gSwapInfo, gAr, As.with, sN, arN_hit h hk]
  by_cases ho : (nodePa i (f i)).info = o
  · have ho' : (f i).inf = o := ho
    rw [if_pos ho, if_pos ho']
    simp only
    rw [← arN_put { f i with inf := n } h]
    rfl
  · have ho' : ¬ (f i).inf = o := ho
    rw [if_neg ho, if_neg ho']
theorem g_info (h : i < k) (hk : k ≤ 1000) : gInfo (rfN i) (sN L k f rs) = ((f i).inf, sN L k f rs) := by
  simp only [gInfo, gAr, As.with, sN, arN_hit h hk]
  rfl
theorem g_setMark (h : i < k) (hk : k ≤ 1000) : gSetMark (rfN i) (sN L k f rs) = (0, sN L k (upd f i { f i with mark := true }) rs) := by
  simp only [gSetMark, gAr, As.with, sN, arN_hit h hk]
  rw [← arN_put { f i with mark := true } h]
  rfl
/-- A way of a node, changed. -/
def wayS (x : Ns) (wy od nw : Int) : Ns := if wy = 0 ∧ x.w0 = od then { x with w0 := nw } else if wy = 1 ∧ x.w1 = od then { x with w1 := nw } else x
def wayB (x : Ns) (wy od : Int) : Int := if wy = 0 ∧ x.w0 = od then 1 else if wy = 1 ∧ x.w1 = od then 1 else 0
theorem g_swapWay (h : i < k) (hk : k ≤ 1000) (wy od nw : Int) : gSwapWay (rfN i) wy od nw (sN L k f rs) = (wayB (f i) wy od, sN L k (upd f i (wayS (f i) wy od nw)) rs) := by
  have hw : ∀ y : Int, (hasB 2 y = true ↔ y = 0 ∨ y = 1) := fun y => by unfold hasB; rw [decide_eq_true_iff]; omega
  simp only [gSwapWay, gAr, As.with, sN, arN_hit h hk]
  have e0 : wayAt (nodePa i (f i)) 0 = (f i).w0 := rfl
  have e1 : wayAt (nodePa i (f i)) 1 = (f i).w1 := rfl
  have hl : (nodePa i (f i)).ws.length = 2 := rfl
  rw [hl]
  by_cases h0 : wy = 0 ∧ (f i).w0 = od
  · obtain ⟨rfl, rfl⟩ := h0
    rw [if_pos ⟨(hw 0).2 (.inl rfl), e0⟩]
    simp only [wayB, wayS]
    rw [if_pos ⟨trivial, trivial⟩, if_pos ⟨trivial, trivial⟩, ← arN_put { f i with w0 := nw } h]
    rfl
  · by_cases h1 : wy = 1 ∧ (f i).w1 = od
    · obtain ⟨rfl, rfl⟩ := h1
      rw [if_pos ⟨(hw 1).2 (.inr rfl), e1⟩]
      simp only [wayB, wayS]
      rw [if_neg h0, if_neg h0, if_pos ⟨trivial, trivial⟩, if_pos ⟨trivial, trivial⟩, ← arN_put { f i with w1 := nw } h]
      rfl
    · have hn : ¬ (hasB 2 wy = true ∧ wayAt (nodePa i (f i)) wy = od) := by
        rintro ⟨a, b⟩
        rcases (hw wy).1 a with rfl | rfl
        · exact h0 ⟨rfl, e0 ▸ b⟩
        · exact h1 ⟨rfl, e1 ▸ b⟩
      rw [if_neg hn]
      simp only [wayB, wayS]
      rw [if_neg h0, if_neg h0, if_neg h1, if_neg h1, upd_same]
theorem inv_sN (hk : k ≤ 50) (hL : L ≤ 64) (hB : B ≤ 900) (hf : ∀ i, i < k → in64 (f i).inf) (hrs : rs.length ≤ 1000) : Inv L B (sN L k f rs) := by
  have hm : ∀ p ∈ (sN L k f rs).ar.pls, p = rootPa ∨ p = entryPa ∨ ∃ i, i < k ∧ p = nodePa i (f i) := by
    intro p hp
    simp only [sN, arN, List.mem_cons, List.mem_map, List.mem_range] at hp
    rcases hp with rfl | rfl | ⟨i, hi, rfl⟩
    · exact .inl rfl
    · exact .inr (.inl rfl)
    · exact .inr (.inr ⟨i, hi, rfl⟩)
  refine ⟨by simp [sN], hL, by simp only [sN]; rw [arN_len]; omega, ?_, by simp only [sN, arN]; omega, by simp only [sN, arN, List.length_nil]; omega, fun i hi => (by cases hi), by simp only [sN]; omega, ?_, ?_, hrs, ?_⟩
  · intro p hp
    rcases hm p hp with rfl | rfl | ⟨i, hi, rfl⟩
    · simp only [rootPa]; omega
    · simp only [entryPa]; omega
    · simp only [nodePa]; omega
  · intro x hx
    obtain ⟨_, rfl⟩ := List.mem_replicate.1 hx
    exact in01.2.2
  · intro x hx
    obtain ⟨_, rfl⟩ := List.mem_replicate.1 hx
    exact ⟨by simp only [List.length_nil]; omega, fun p hp => by cases hp⟩
  · intro p hp
    rcases hm p hp with rfl | rfl | ⟨i, hi, rfl⟩
    · exact in01.1
    · exact in01.1
    · exact hf i hi

/-! A budget of touches. -/
theorem inv_with {F : Nat → Pa → Int × As} (h : Inv L (B + 1) s) (hF : ∀ i p, s.ar.pls[i]? = some p → (F i p).2 = s.ar ∨ ∃ p', (F i p).2 = s.ar.put i p' ∧ p'.cnt = p.cnt ∧ in64 p'.info) : Inv L B { s with ar := (s.ar.with r F).2 } := by
  have h' := h.mono (B' := B) (by omega)
  unfold As.with
  split
  · rename_i i p hh
    have hp := (hit_some hh).1
    rcases hF i p hp with e | ⟨p', e, e1, e2⟩
    · rw [e]; exact h'
    · rw [e]
      refine ⟨h'.len, h'.l64, by simp only [As.put, List.length_set]; exact h'.pl, ?_, h'.flt, h'.frl, fun j hj => by simp only [As.put, List.length_set]; exact h'.fr j hj, h'.now, h'.said, h'.que, h'.rc.1, ?_⟩
      · intro q hq
        rcases List.mem_or_eq_of_mem_set hq with hq | rfl
        · exact h'.cnt q hq
        · rw [e1]; exact h'.cnt p (List.mem_of_getElem? hp)
      · intro q hq
        rcases List.mem_or_eq_of_mem_set hq with hq | rfl
        · exact h'.rc.2 q hq
        · exact e2
  · exact ⟨h'.len, h'.l64, h'.pl, h'.cnt, by have := h.flt; simp only [As.fault]; omega, h'.frl, h'.fr, h'.now, h'.said, h'.que, h'.rc⟩
theorem len_setRe (l : List Re) (n : Int) (f : Re → Re) : (setRe l n f).length = l.length := by
  unfold setRe
  split
  · rw [List.length_set]
  · rfl
theorem inv_rs (h : Inv L B s) {rs : List Re} (hl : rs.length = s.rs.length) : Inv L B { s with rs := rs } := ⟨h.len, h.l64, h.pl, h.cnt, h.flt, h.frl, h.fr, h.now, h.said, h.que, by show rs.length ≤ 1000; rw [hl]; exact h.rc.1, h.rc.2⟩
theorem in_01 {z : Int} (h : z = 0 ∨ z = 1) : in64 z := by rcases h with rfl | rfl; exact in01.1; exact in01.2.1
section
variable {α : Type}
theorem tame_swapInfo {r o n : Int} {K : Int → Tr α} (hn : in64 n) (hK : ∀ z, in64 z → tame L (K z)) : tame L (.tch (gSwapInfo r o n) K) := ⟨fun B s h => ⟨inv_with h (fun i p hp => by
  by_cases e : p.info = o
  · exact .inr ⟨{ p with info := n }, by rw [if_pos e], rfl, hn⟩
  · exact .inl (by rw [if_neg e])), in_01 (swapInfo_01 r o n s)⟩, hK⟩
theorem tame_info {r : Int} {K : Int → Tr α} (hK : ∀ z, in64 z → tame L (K z)) : tame L (.tch (gInfo r) K) := ⟨fun B s h => ⟨inv_with h (fun i p hp => .inl rfl), info_in h.fit r⟩, hK⟩
theorem tame_setMark {r : Int} {K : Int → Tr α} (hK : ∀ z, in64 z → tame L (K z)) : tame L (.tch (gSetMark r) K) := ⟨fun B s h => ⟨inv_with h (fun i p hp => .inr ⟨{ p with mark := true }, rfl, rfl, h.rc.2 p (List.mem_of_getElem? hp)⟩), in01.1⟩, hK⟩
theorem tame_swapWay {r wy od nw : Int} {K : Int → Tr α} (hK : ∀ z, in64 z → tame L (K z)) : tame L (.tch (gSwapWay r wy od nw) K) := ⟨fun B s h => ⟨inv_with h (fun i p hp => by
  by_cases e : hasB p.ws.length wy = true ∧ wayAt p wy = od
  · exact .inr ⟨{ p with ws := p.ws.set wy.toNat nw }, by rw [if_pos e], rfl, h.rc.2 p (List.mem_of_getElem? hp)⟩
  · exact .inl (by rw [if_neg e])), in_01 (swapWay_01 r wy od nw s)⟩, hK⟩
theorem tame_all' {n : Int} {K : Int → Tr α} (hK : ∀ z, in64 z → tame L (K z)) : tame L (.tch (gAll n) K) := ⟨fun B s h => ⟨h.mono (by omega), in_01 (all_01 n s)⟩, hK⟩
theorem tame_setAll {n : Int} {K : Int → Tr α} (hK : ∀ z, in64 z → tame L (K z)) : tame L (.tch (gSetAll n) K) := ⟨fun B s h => ⟨inv_rs (h.mono (by omega)) (len_setRe _ _ _), in01.1⟩, hK⟩
theorem tame_set {n t : Int} {K : Int → Tr α} (hK : ∀ z, in64 z → tame L (K z)) : tame L (.tch (gSet n t) K) := ⟨fun B s h => ⟨inv_rs (h.mono (by omega)) (len_setRe _ _ _), in01.1⟩, hK⟩
end
theorem tame_ite {α : Type} {b : Bool} {t u : Tr α} (ht : tame L t) (hu : tame L u) : tame L (if b = true then t else u) := by cases b <;> assumption
theorem tame_tSet (n t : Int) : tame L (tSet n t) := tame_set fun _ _ => trivial
theorem tame_finish (r : Rc) (n : Int) : tame L (tFinish r n) := by
  refine tame_setAll fun _ _ => ?_
  have hF : tame L (tWay r (tSet n 2)) := by
    unfold tWay
    split
    · exact tame_tSet n 2
    · exact tame_swapWay fun _ _ => tame_tSet n 2
  generalize r.ns.drop (min r.kp.toNat r.ns.length) = l
  induction l with
  | nil => exact hF
  | cons x l ih => exact tame_setMark fun _ _ => ih
theorem tame_settle (n : Int) : tame L (tSettle n) := tame_all' fun z _ => tame_ite trivial (tame_bind (tame_tSet n 0) fun _ => trivial)
theorem tame_takes (r : Rc) (hn : in64 n) (l : List (Int × Int)) : tame L (tTakes r n l) := by
  induction l with
  | nil => exact tame_bind (tame_finish r n) fun _ => trivial
  | cons p l ih => exact tame_bind (tame_swapInfo hn fun z _ => tame_ite trivial (tame_info fun _ _ => trivial)) fun b => tame_ite ih (tame_settle n)
theorem tame_help (r : Rc) (hn : in64 n) : tame L (tHelp r n) := tame_takes r hn _
/-! What a record is doesn't change. -/
section
variable {α : Type} {m : Int} {r0 : Rc}
end
end

/-! One helper's work alone, of record 1. -/
/-- What comes of taking nodes: what they are then, how many touches, whether one was another's. -/
def oTk (n : Int) : List (Nat × Int) → (Nat → Ns) → (Nat → Ns) × Nat × Bool
  | [], f => (f, 0, false)
  | p :: l, f => if (f p.1).inf = p.2 then ((oTk n l (upd f p.1 { f p.1 with inf := n })).1, (oTk n l (upd f p.1 { f p.1 with inf := n })).2.1 + 1, (oTk n l (upd f p.1 { f p.1 with inf := n })).2.2)
    else if (f p.1).inf = n then ((oTk n l f).1, (oTk n l f).2.1 + 2, (oTk n l f).2.2) else (f, 2, true)
def oMk : List Nat → (Nat → Ns) → (Nat → Ns)
  | [], f => f
  | i :: l, f => oMk l (upd f i { f i with mark := true })
def oWay (on : List Nat) (wy od nw : Int) (f : Nat → Ns) : Nat → Ns := match on with
  | [] => f
  | i :: _ => upd f i (wayS (f i) wy od nw)
def rcN (on : List Nat) (is : List Int) (kp wy od nw : Int) : Rc := ⟨on.map rfN, is, kp, wy, od, nw⟩
/-- What is shared, with one record. -/
def s1 (L k : Nat) (f : Nat → Ns) (r : Rc) (st : Int) (al : Bool) : Sig := sN L k f [⟨r, st, al⟩]
section
variable {L k : Nat} {f : Nat → Ns} {r : Rc} {st : Int} {al : Bool}
theorem rcOf_1 : rcOf (s1 L k f r st al).rs 1 = r := rfl
theorem g_all : gAll 1 (s1 L k f r st al) = (b2i al, s1 L k f r st al) := rfl
theorem g_setAll : gSetAll 1 (s1 L k f r st al) = (0, s1 L k f r st true) := rfl
theorem g_set (t : Int) : gSet 1 t (s1 L k f r st al) = (0, s1 L k f r t al) := rfl
theorem ev_settle : ev (tSettle 1) (s1 L k f r st al) = if al = true then (true, s1 L k f r st al, 1) else (false, s1 L k f r 0 al, 2) := by
  unfold tSettle
  simp only [ev, g_all]
  cases al with
  | true => rfl
  | false => rfl
theorem ev_marks (F : Tr Unit) (l : List Nat) (hl : ∀ i ∈ l, i < k) (hk : k ≤ 1000) (f : Nat → Ns) : ev (tMarks F (l.map rfN)) (s1 L k f r st al) = ((ev F (s1 L k (oMk l f) r st al)).1, (ev F (s1 L k (oMk l f) r st al)).2.1, (ev F (s1 L k (oMk l f) r st al)).2.2 + l.length) := by
  induction l generalizing f with
  | nil => rfl
  | cons i l ih =>
    have e := g_setMark (L := L) (f := f) (rs := [⟨r, st, al⟩]) (hl i (List.mem_cons_self ..)) hk
    simp only [List.map_cons, tMarks, ev, s1, e]
    have := ih (fun j hj => hl j (List.mem_cons_of_mem _ hj)) (upd f i { f i with mark := true })
    simp only [s1] at this
    rw [this]
    simp only [oMk, List.length_cons]
    refine Prod.ext rfl (Prod.ext rfl ?_)
    simp only; omega
theorem ev_finish {on : List Nat} {is : List Int} {kp wy od nw : Int} (hon : ∀ i ∈ on, i < k) (hk : k ≤ 1000) (f : Nat → Ns) : ev (tFinish (rcN on is kp wy od nw) 1) (s1 L k f r st al) = ((), s1 L k (oWay on wy od nw (oMk (on.drop kp.toNat) f)) r 2 true, 2 + (on.length - kp.toNat) + (if on = [] then 0 else 1)) := by
  have hd : (on.map rfN).drop (min kp.toNat (on.map rfN).length) = (on.drop kp.toNat).map rfN := by
    rw [List.map_drop, List.length_map]
    by_cases h : kp.toNat ≤ on.length
    · rw [Nat.min_eq_left h]
    · rw [Nat.min_eq_right (by omega), List.drop_eq_nil_of_le (by simp), List.drop_eq_nil_of_le (by simp; omega)]
  simp only [tFinish, rcN, ev, g_setAll]
  rw [hd, ev_marks _ _ (fun i hi => hon i (List.mem_of_mem_drop hi)) hk]
  cases on with
  | nil =>
    simp only [tWay, List.map_nil, tSet, ev, g_set, oWay, List.length_drop, List.length_nil]
    refine Prod.ext rfl (Prod.ext rfl ?_)
    simp
  | cons i on =>
    have e := g_swapWay (L := L) (f := oMk ((i :: on).drop kp.toNat) f) (rs := [⟨r, st, true⟩]) (hon i (List.mem_cons_self ..)) hk wy od nw
    simp only [tWay, List.map_cons, tSet, ev, s1, e, oWay, List.length_drop]
    refine Prod.ext rfl (Prod.ext rfl ?_)
    simp only [if_neg (List.cons_ne_nil i on)]
/-- A helper alone. -/
def oHelp (L k : Nat) (on : List Nat) (is : List Int) (kp wy od nw : Int) (r : Rc) (st : Int) (al : Bool) (q : (Nat → Ns) × Nat × Bool) : Bool × Sig × Nat :=
  if q.2.2 = true then (if al = true then (true, s1 L k q.1 r st al, q.2.1 + 1) else (false, s1 L k q.1 r 0 al, q.2.1 + 2))
  else (true, s1 L k (oWay on wy od nw (oMk (on.drop kp.toNat) q.1)) r 2 true, q.2.1 + (2 + (on.length - kp.toNat) + (if on = [] then 0 else 1)))
theorem ev_takes {on : List Nat} {is : List Int} {kp wy od nw : Int} (hon : ∀ i ∈ on, i < k) (hk : k ≤ 1000) (l : List (Nat × Int)) (hl : ∀ p ∈ l, p.1 < k) (f : Nat → Ns) :
    ev (tTakes (rcN on is kp wy od nw) 1 (l.map fun p => (rfN p.1, p.2))) (s1 L k f r st al) = oHelp L k on is kp wy od nw r st al (oTk 1 l f) := by
  induction l generalizing f with
  | nil =>
    simp only [List.map_nil, tTakes, ev_bind, ev_finish hon hk, oTk, oHelp, ev]
    refine Prod.ext rfl (Prod.ext rfl ?_)
    simp only [Nat.add_zero, Nat.zero_add]
    simp
  | cons p l ih =>
    have ih := ih fun q hq => hl q (List.mem_cons_of_mem _ hq)
    have hp := hl p (List.mem_cons_self ..)
    have e1 := g_swapInfo (L := L) (f := f) (rs := [⟨r, st, al⟩]) hp hk p.2 1
    have e2 := g_info (L := L) (f := f) (rs := [⟨r, st, al⟩]) hp hk
    simp only [List.map_cons, tTakes, ev_bind]
    by_cases h1 : (f p.1).inf = p.2
    · rw [if_pos h1] at e1
      have et : ev (tTake (rfN p.1) p.2 1) (s1 L k f r st al) = (true, s1 L k (upd f p.1 { f p.1 with inf := 1 }) r st al, 1) := by
        unfold tTake
        simp only [ev, s1, e1]
        rfl
      rw [et]
      simp only [if_true]
      rw [ih]
      simp only [oTk, if_pos h1, oHelp]
      split
      · split <;> (refine Prod.ext rfl (Prod.ext rfl ?_); simp only; omega)
      · refine Prod.ext rfl (Prod.ext rfl ?_); simp only; omega
    · rw [if_neg h1] at e1
      by_cases h2 : (f p.1).inf = 1
      · have et : ev (tTake (rfN p.1) p.2 1) (s1 L k f r st al) = (true, s1 L k f r st al, 2) := by
          unfold tTake
          simp only [ev, s1, e1]
          simp [ev, e2, h2]
        rw [et]
        simp only [if_true]
        rw [ih]
        simp only [oTk, if_neg h1, if_pos h2, oHelp]
        split
        · split <;> (refine Prod.ext rfl (Prod.ext rfl ?_); simp only; omega)
        · refine Prod.ext rfl (Prod.ext rfl ?_); simp only; omega
      · have et : ev (tTake (rfN p.1) p.2 1) (s1 L k f r st al) = (false, s1 L k f r st al, 2) := by
          unfold tTake
          simp only [ev, s1, e1]
          simp [ev, e2, h2]
        rw [et]
        simp only [Bool.false_eq_true, if_false]
        rw [ev_settle]
        simp only [oTk, if_neg h1, if_neg h2, oHelp, if_true]
        split <;> (refine Prod.ext rfl (Prod.ext rfl ?_); simp only)
theorem ev_help {on : List Nat} {is : List Int} {kp wy od nw : Int} (hon : ∀ i ∈ on, i < k) (hk : k ≤ 1000) (f : Nat → Ns) :
    ev (tHelp (rcN on is kp wy od nw) 1) (s1 L k f r st al) = oHelp L k on is kp wy od nw r st al (oTk 1 (on.zip is) f) := by
  have e : (rcN on is kp wy od nw).ns.zip (rcN on is kp wy od nw).is = (on.zip is).map fun p => (rfN p.1, p.2) := by
    simp only [rcN]
    rw [List.zip_map_left]
    rfl
  unfold tHelp
  rw [e]
  exact ev_takes hon hk _ (fun p hp => hon p.1 (List.of_mem_zip hp).1) f
end
end Go.Proofs.YtcegianjpifnbaaGreat
