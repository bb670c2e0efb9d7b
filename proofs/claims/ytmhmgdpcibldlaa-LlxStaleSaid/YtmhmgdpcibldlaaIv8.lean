/-
  What is shared stays countable: a budget of touches. No function of the program in sight.
-/
import Derived.Test.YtmhmgdpcibldlaaNw8
namespace Go.Proofs.Ytmhmgdpcibldlaa
set_option linter.unusedVariables false
set_option linter.unusedSimpArgs false
set_option maxRecDepth 20000

/-- What is shared can be counted, and B touches on, too. -/
structure Inv (L B : Nat) (s : Sig) : Prop where
  len : s.S.length = L
  l64 : L ≤ 64
  pl : s.ar.pls.length + B ≤ 60000
  cnt : ∀ p ∈ s.ar.pls, p.cnt + B ≤ 100000
  flt : s.ar.flt + B ≤ 100000
  frl : s.ar.fr.length + B ≤ 60000
  fr : ∀ i ∈ s.ar.fr, i < s.ar.pls.length
  now : 0 ≤ s.now ∧ s.now + B ≤ 100000
  said : ∀ x ∈ s.S, in64 x.1
  que : ∀ x ∈ s.S, x.2.length + B ≤ 1000 ∧ ∀ p ∈ x.2, in64 p.1 ∧ in64 p.2
  rc : RcOk s
section
variable {L B B' : Nat} {s : Sig} {i : Nat} {z r n : Int} {nd : Nd}
theorem Inv.fit (h : Inv L B s) : Fit s := ⟨⟨by have := h.pl; omega, fun p hp => by have := h.cnt p hp; omega, by have := h.flt; omega, by have := h.frl; omega⟩, h.fr, by have := h.now; omega, by rw [h.len]; exact h.l64, h.said, fun x hx => ⟨by have := (h.que x hx).1; omega, (h.que x hx).2⟩, h.rc⟩
theorem Inv.mono (h : Inv L B s) (hb : B' ≤ B) : Inv L B' s := ⟨h.len, h.l64, by have := h.pl; omega, fun p hp => by have := h.cnt p hp; omega, by have := h.flt; omega, by have := h.frl; omega, h.fr, by have := h.now; omega, h.said, fun x hx => ⟨by have := (h.que x hx).1; omega, (h.que x hx).2⟩, h.rc⟩
/-- Other announcements, other queues. -/
theorem Inv.ep (h : Inv L B s) {S' : List Tq} (hl : S'.length = s.S.length) (hs : ∀ x ∈ S', in64 x.1) (hq : ∀ x ∈ S', x.2.length + B ≤ 1000 ∧ ∀ p ∈ x.2, in64 p.1 ∧ in64 p.2) : Inv L B { s with S := S' } := ⟨hl.trans h.len, h.l64, h.pl, h.cnt, h.flt, h.frl, h.fr, h.now, hs, hq, h.rc⟩
theorem in_set {S : List Tq} {P : Tq → Prop} {y : Tq} (h : ∀ x ∈ S, P x) (hy : P y) : ∀ x ∈ S.set i y, P x := by
  intro x hx
  rcases List.mem_or_eq_of_mem_set hx with hx | rfl
  · exact h x hx
  · exact hy
theorem inv_say (h : Inv L B s) (hz : in64 z) : Inv L B (gSay i z s).2 := by
  simp only [gSay, setSaid]
  cases hi : s.S[i]? with
  | none => exact h
  | some x => exact h.ep (by simp) (in_set h.said hz) (in_set h.que (h.que x (List.mem_of_getElem? hi)))
theorem inv_swap (h : Inv L (B + 1) s) : Inv L B (gSwap n s).2 := by
  unfold gSwap
  split
  · rename_i e
    have h' := h.mono (B' := B) (by omega)
    exact ⟨h'.len, h'.l64, h'.pl, h'.cnt, h'.flt, h'.frl, h'.fr, by have := h.now; simp only; omega, h'.said, h'.que, h'.rc⟩
  · exact h.mono (by omega)
theorem inv_leave (h : Inv L (B + 1) s) (hr : in64 r) (hn : in64 n) : Inv L B (gLeave i r n s).2 := by
  have h' := h.mono (B' := B) (by omega)
  simp only [gLeave]
  cases hi : s.S[i]? with
  | none => exact h'
  | some x =>
    obtain ⟨y, q⟩ := x
    have hx := h.que _ (List.mem_of_getElem? hi)
    have hy := h.said _ (List.mem_of_getElem? hi)
    refine h'.ep (by simp) (in_set h'.said hy) (in_set h'.que ⟨by have := hx.1; simp at this ⊢; omega, fun p hp => ?_⟩)
    rcases List.mem_append.1 hp with hp | hp
    · exact hx.2 p hp
    · obtain rfl : p = (r, n) := by simpa using hp
      exact ⟨hr, hn⟩
theorem inv_rdy (h : Inv L B s) : Inv L B (gRdy i n s).2 := by
  unfold gRdy
  split
  · rename_i y p q hi
    have hx := h.que _ (List.mem_of_getElem? hi)
    have hy := h.said _ (List.mem_of_getElem? hi)
    split
    · exact h.ep (by simp) (in_set h.said hy) (in_set h.que ⟨by have := hx.1; simp at this ⊢; omega, fun p' hp => hx.2 p' (List.mem_cons_of_mem _ hp)⟩)
    · exact h
  · exact h
theorem inv_free (h : Inv L (B + 1) s) : Inv L B (gFree r s).2 := by
  have h' := h.mono (B' := B) (by omega)
  simp only [gFree, As.drop]
  cases hh : s.ar.hit r with
  | none => exact ⟨h'.len, h'.l64, h'.pl, h'.cnt, by have := h.flt; simp only [As.fault]; omega, h'.frl, h'.fr, h'.now, h'.said, h'.que, h'.rc⟩
  | some ip =>
    obtain ⟨j, p⟩ := ip
    obtain ⟨k1, k2, k3⟩ := hit_some hh
    have hj := (List.getElem?_eq_some_iff.1 k1).1
    refine ⟨h'.len, h'.l64, by simp only [As.free, List.length_set]; exact h'.pl, ?_, h'.flt, by have := h.frl; simp only [As.free, List.length_append, List.length_singleton]; omega, ?_, h'.now, h'.said, h'.que, h'.rc.1, fun q hq => (by
      rcases List.mem_or_eq_of_mem_set hq with hq | rfl
      · exact h'.rc.2 q hq
      · unfold in64; simp [Pa.gone])⟩
    · intro q hq
      rcases List.mem_or_eq_of_mem_set hq with hq | rfl
      · exact h'.cnt q hq
      · exact h'.cnt p (List.mem_of_getElem? k1)
    · intro q hq
      simp only [As.free, List.length_set] at hq ⊢
      rcases List.mem_append.1 hq with hq | hq
      · exact h'.fr q hq
      · obtain rfl : q = j := by simpa using hq
        exact hj
theorem inv_ready (h : Inv L (B + 1) s) : Inv L B (gReady i n s).2 := by
  simp only [gReady]
  split
  · exact (inv_rdy h).mono (by omega)
  · exact inv_free (inv_rdy h)
theorem inv_make (h : Inv L (B + 1) s) : Inv L B (gMake nd s).2 := by
  have h' := h.mono (B' := B) (by omega)
  simp only [gMake, As.make]
  by_cases hr : s.ar.room
  · rw [if_pos hr]
    obtain ⟨pa, hp, hc⟩ := next_some h.fr
    have hcn : s.ar.cntN + 1 + B ≤ 100000 := by
      rw [← hc]
      unfold As.next at hp
      cases hf : s.ar.fr with
      | nil =>
        simp only [hf] at hp
        simp at hp
        subst hp
        have := h.flt
        simp [Pa.nil]; omega
      | cons j fr =>
        simp only [hf] at hp
        have := h.cnt pa (List.mem_of_getElem? hp)
        omega
    have hmem : ∀ q ∈ s.ar.next.2.pls, q.cnt + B ≤ 100000 := by
      unfold As.next
      cases hf : s.ar.fr with
      | nil =>
        simp only
        intro q hq
        rcases List.mem_append.1 hq with hq | hq
        · exact h'.cnt q hq
        · obtain rfl : q = Pa.nil := by simpa using hq
          have := h'.flt
          simp [Pa.nil]; omega
      | cons j fr => exact h'.cnt
    have hmi : ∀ q ∈ s.ar.next.2.pls, in64 q.info := by
      unfold As.next
      cases hf : s.ar.fr with
      | nil =>
        simp only
        intro q hq
        rcases List.mem_append.1 hq with hq | hq
        · exact h'.rc.2 q hq
        · obtain rfl : q = Pa.nil := by simpa using hq
          unfold in64; simp [Pa.nil]
      | cons j fr => exact h'.rc.2
    refine ⟨h'.len, h'.l64, ?_, ?_, ?_, ?_, ?_, h'.now, h'.said, h'.que, h'.rc.1, fun q hq => (by
      simp only [As.alloc] at hq
      rcases List.mem_or_eq_of_mem_set hq with hq | rfl
      · exact hmi q hq
      · unfold in64; simp)⟩
    · simp only [As.alloc, List.length_set]
      unfold As.next
      cases hf : s.ar.fr with
      | nil => have := h.pl; simp; omega
      | cons j fr => exact h'.pl
    · intro q hq
      simp only [As.alloc] at hq
      rcases List.mem_or_eq_of_mem_set hq with hq | rfl
      · exact hmem q hq
      · exact hcn
    · simp only [As.alloc]
      unfold As.next
      cases hf : s.ar.fr with
      | nil => exact h'.flt
      | cons j fr => exact h'.flt
    · simp only [As.alloc]
      unfold As.next
      cases hf : s.ar.fr with
      | nil => have := h'.frl; simp; omega
      | cons j fr => have := h'.frl; rw [hf] at this; simp at this ⊢; omega
    · intro q hq
      simp only [As.alloc, List.length_set] at hq ⊢
      unfold As.next at hq ⊢
      cases hf : s.ar.fr with
      | nil => simp only [hf] at hq; cases hq
      | cons j fr =>
        simp only [hf] at hq ⊢
        exact h.fr q (by rw [hf]; exact List.mem_cons_of_mem _ hq)
  · rw [if_neg hr]; exact h'
theorem in01 : in64 0 ∧ in64 1 ∧ in64 (-1) := by unfold in64; omega
theorem make_in : in64 (gMake nd s).1 := by
  simp only [gMake, As.make]
  split
  · have := mk_range (s.ar.next.1 : Int) ((s.ar.cntN + 1 : Nat) : Int)
    unfold in64; simp only; omega
  · exact in01.1
theorem free_01 : (gFree r s).1 = 0 ∨ (gFree r s).1 = 1 := by
  simp only [gFree, As.drop]
  split <;> simp
end

/-- A tree whose touches keep the budget, told numbers that may be. -/
def tame {α : Type} (L : Nat) : Tr α → Prop
  | .ret _ => True
  | .tch g K => (∀ B s, Inv L (B + 1) s → Inv L B (g s).2 ∧ in64 (g s).1) ∧ ∀ z, in64 z → tame L (K z)
  | .lk _ K => ∀ r, tame L (K r)
theorem tame_bind {α β : Type} {L : Nat} {t : Tr α} {K : α → Tr β} (h : tame L t) (hK : ∀ v, tame L (K v)) : tame L (t.bind K) := by
  induction t with
  | ret v => exact hK v
  | tch g K' ih => exact ⟨h.1, fun z hz => ih z (h.2 z hz)⟩
  | lk n K' ih => exact fun r => ih r (h r)
theorem all_mono {α : Type} {P Q : Sig → Prop} (hPQ : ∀ s, P s → Q s) {t : Tr α} {s : Sig} (h : all P t s) : all Q t s := by
  induction t generalizing s with
  | ret v => exact hPQ _ h
  | tch g K ih => exact ⟨hPQ _ h.1, ih _ h.2⟩
  | lk n K ih => exact ih _ h
theorem tame_all {α : Type} {L : Nat} {t : Tr α} (ht : tame L t) : ∀ (s : Sig) (B : Nat), Inv L (B + (ev t s).2.2) s → all (Inv L B) t s ∧ Inv L B (ev t s).2.1 := by
  induction t with
  | ret v => intro s B h; exact ⟨h, h⟩
  | tch g K ih =>
    intro s B h
    simp only [ev] at h
    have h1 := (ht.1 (B + (ev (K (g s).1) (g s).2).2.2) s (by rw [Nat.add_assoc]; exact h))
    have h2 := ih (g s).1 (ht.2 _ h1.2) (g s).2 B h1.1
    exact ⟨⟨h.mono (by omega), h2.1⟩, h2.2⟩
  | lk n K ih => intro s B h; exact ih _ (ht _) s B h
section
variable {L : Nat}
theorem tame_now {α : Type} {K : Int → Tr α} (hK : ∀ z, in64 z → tame L (K z)) : tame L (.tch gNow K) := ⟨fun B s h => ⟨h.mono (by omega), by have := h.now; simp only [gNow]; unfold in64; omega⟩, hK⟩
theorem tame_say {α : Type} {K : Int → Tr α} {i : Nat} {n : Int} (hn : in64 n) (hK : ∀ z, in64 z → tame L (K z)) : tame L (.tch (gSay i n) K) := ⟨fun B s h => ⟨inv_say (h.mono (by omega)) hn, in01.1⟩, hK⟩
theorem tame_tAll (now : Int) (r j : Nat) : tame L (tAll now r j) := by
  induction r generalizing j with
  | zero => exact trivial
  | succ r ih =>
    refine ⟨fun B s h => ⟨h.mono (by omega), saidOf_in h.fit j⟩, fun z _ => ?_⟩
    dsimp only
    split
    · exact trivial
    · exact ih _
theorem tame_tFree (i : Nat) (n : Int) (N : Nat) : tame L (tFree i n N) := by
  induction N with
  | zero => exact trivial
  | succ N ih =>
    refine ⟨fun B s h => ⟨inv_ready h, gRdy_in h.fit i n⟩, fun z _ => ?_⟩
    dsimp only
    split
    · exact trivial
    · exact ih
theorem tame_tSwap (b : Bool) (n : Int) : tame L (tSwap b n) := by
  unfold tSwap
  split
  · exact ⟨fun B s h => ⟨inv_swap h, by rcases gSwap_01 n s with e | e <;> rw [e]; exact in01.1; exact in01.2.1⟩, fun z _ => trivial⟩
  · exact trivial
theorem tame_tBegin (N L' i : Nat) : tame L (tBegin N L' i) := by
  refine tame_now fun now hn => tame_say hn fun _ _ => tame_bind (tame_tAll now L' 0) fun b => tame_bind (tame_tSwap b now) fun _ => tame_now fun n _ => tame_tFree i n N
theorem tame_tEnd (i : Nat) : tame L (tEnd i) := tame_say in01.2.2 fun _ _ => trivial
theorem tame_tDrop (l : List Int) : tame L (tDrop l) := by
  induction l with
  | nil => exact trivial
  | cons r l ih =>
    unfold tDrop
    split
    · exact ih
    · exact ⟨fun B s h => ⟨inv_free h, by rcases free_01 (r := r) (s := s) with e | e <;> rw [e]; exact in01.1; exact in01.2.1⟩, fun z _ => ih⟩
theorem tame_tLeave (i : Nat) (l : List Int) (hl : ∀ r ∈ l, in64 r) : tame L (tLeave i l) := by
  induction l with
  | nil => exact trivial
  | cons r l ih => exact tame_now fun n hn => ⟨fun B s h => ⟨inv_leave h (hl r (List.mem_cons_self ..)) hn, in01.1⟩, fun z _ => ih fun r hr => hl r (List.mem_cons_of_mem _ hr)⟩
end
/-- A new world's. -/
theorem inv_new (m L B : Nat) (hm : m ≤ 65536) (hL : L ≤ 64) (hB : B ≤ 900) : Inv L B (newSig m L) := by
  refine ⟨by simp [newSig], hL, by simp [newSig]; omega, ?_, by simp [newSig]; omega, by simp [newSig]; omega, fun i hi => (by cases hi), (by simp only [newSig]; omega), ?_, ?_, ⟨by simp [newSig], fun p hp => (by
    simp only [newSig, List.mem_cons, List.not_mem_nil, or_false] at hp
    rcases hp with rfl | rfl <;> (unfold in64; simp [rootPa, entryPa]))⟩⟩
  · intro p hp
    simp only [newSig, List.mem_cons, List.not_mem_nil, or_false] at hp
    rcases hp with rfl | rfl
    · simp only [rootPa]; omega
    · simp only [entryPa]; omega
  · intro x hx
    obtain ⟨_, rfl⟩ := List.mem_replicate.1 hx
    exact in01.2.2
  · intro x hx
    obtain ⟨_, rfl⟩ := List.mem_replicate.1 hx
    exact ⟨by simp only [List.length_nil]; omega, fun p hp => by cases hp⟩
end Go.Proofs.Ytmhmgdpcibldlaa
