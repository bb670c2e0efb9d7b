/-
  Regions that draw their order and end in stores into cells that they load: what is loaded may be taken first all the same, since the stores (those of st) wait for every load. Beside Derived/OrdersHeld.lean, by its law 'wpOp_putIf': there the condition must hold behind the store, too. No program in sight.
-/
import Derived.OrdersHeld
import Derived.RegionTactic
import Derived.Below
namespace Go.Proofs.Ytmnbdhngadjmiaa
open Go Go.RowKit

section
variable {P : Program} {ops : Array Oper} {Q : Exit → Act → World → Prop} {md : Region.Mode} {C : World → Prop} {st : Nat → Bool} {i j : Nat} {listed : Array Bool}

/-- Whatever order is picked from here on; C holds behind every operation but those of st. -/
def anyT (P : Program) (md : Region.Mode) (ops : Array Oper) (Q : Exit → Act → World → Prop) (C : World → Prop) (st : Nat → Bool) : Nat → Array Bool → Act → World → Prop
  | 0, listed, a, w => Region.ready md ops listed = [] ∧ Q .normal a w
  | n + 1, listed, a, w => (Region.ready md ops listed = [] → Q .normal a w) ∧
    ∀ j ∈ Region.ready md ops listed, wpOp P ops Q j (fun a' w' => (st j = false → C w') ∧ anyT P md ops Q C st n (listed.setIfInBounds j true) a' w') a w

/-- That is more than is asked of a region. -/
theorem any_of_T (n : Nat) : ∀ (listed : Array Bool) (a : Act) (w : World), anyT P md ops Q C st n listed a w → wpAny P md ops Q n listed a w := by
  induction n with
  | zero => exact fun _ _ _ h => h
  | succ n ih => exact fun _ _ _ h => ⟨h.1, fun j hj => wpOp_mono (fun a' w' k => ih _ a' w' k.2) (h.2 j hj)⟩

/-- What may come up hasn't; what it waits for has. -/
theorem ready_un (h : i ∈ Region.ready md ops listed) : listed.getD i true = false := (mem_ready.1 h).1
theorem ready_waits {o : Oper} (h : j ∈ Region.ready md ops listed) (ho : ops[j]? = some o) {e : Edge} (he : e ∈ o.after) (hb : Region.binds md e = true) : listed.getD e.on false = true := by
  obtain ⟨_, o', ho', hall⟩ := mem_ready.1 h
  obtain rfl : o = o' := by rw [ho] at ho'; exact Option.some.inj ho'
  exact hall e he hb
theorem both_no (h0 : listed.getD i true = false) (h1 : listed.getD i false = true) : False := by
  by_cases hs : i < listed.size
  · simp [Array.getD, hs] at h0 h1
    simp [h0] at h1
  · simp [Array.getD, hs] at h0
/-- Of two that may come up neither waits for the other. -/
theorem ready_free {o : Oper} (hi : i ∈ Region.ready md ops listed) (hj : j ∈ Region.ready md ops listed) (ho : ops[j]? = some o) : ∀ e ∈ o.after, Region.binds md e = true → e.on ≠ i :=
  fun _ he hb heq => both_no (ready_un hi) (heq ▸ ready_waits hj ho he hb)

/-- Those of st wait for number i. -/
def waits (md : Region.Mode) (ops : Array Oper) (st : Nat → Bool) (i : Nat) : Bool := (List.range ops.size).all fun s => !st s || ((ops[s]?).any fun o => o.after.any fun e => Region.binds md e && e.on == i)
theorem not_st (hw : waits md ops st i = true) (hi : i ∈ Region.ready md ops listed) (hj : j ∈ Region.ready md ops listed) : st j = false := by
  cases hst : st j with
  | false => rfl
  | true =>
    exfalso
    obtain ⟨_, o, ho, _⟩ := mem_ready.1 hj
    unfold waits at hw
    rw [List.all_eq_true] at hw
    have := hw j (List.mem_range.2 (Array.getElem?_eq_some_iff.1 ho).1)
    rw [hst, ho] at this
    simp only [Bool.not_true, Bool.false_or, Option.any_some, Array.any_eq_true, Bool.and_eq_true, beq_iff_eq] at this
    obtain ⟨k, hk, hb, hon⟩ := this
    exact ready_free hi hj ho _ (Array.getElem_mem hk) hb hon

/-- Whatever may still come ahead of number i doesn't look at what it yields. -/
def Loose (md : Region.Mode) (ops : Array Oper) (oi : Oper) (i : Nat) (listed : Array Bool) : Prop :=
  ∀ j oj, ops[j]? = some oj → j ≠ i → listed.getD j true = false → (∀ e ∈ oj.after, Region.binds md e = true → e.on ≠ i) → oi.apart ops oj = true
theorem Loose.more {oi : Oper} (h : Loose md ops oi i listed) (j : Nat) : Loose md ops oi i (listed.setIfInBounds j true) := by
  intro k ok hk hki hun hno
  refine h k ok hk hki ?_ hno
  rcases Nat.decEq j k with hne | rfl
  · rwa [getD_set_ne true hne] at hun
  · by_cases hs : j < listed.size
    · simp [Array.getD, hs] at hun
    · simp [Array.getD, hs] at hun

/-- Take number i first: it yields v in every world that meets C, and number st waits for it. -/
theorem take_now {oi : Oper} {v : Value} (hi : ops[i]? = some oi) (hsel : ∀ (j : Nat) (o : Oper) cs b, ops[j]? = some o → o.op ≠ .select cs b)
    (hQ : ∀ c a w, Q (.panic c) (a.put oi.dst v) w → Q (.panic c) a w) (hwt : waits md ops st i = true) (n : Nat) :
    ∀ (listed : Array Bool) (a : Act) (w : World), Loose md ops oi i listed → i ∈ Region.ready md ops listed → YieldsIf P ops C oi v a → C w →
      anyT P md ops Q C st n (listed.setIfInBounds i true) (a.put oi.dst v) w → anyT P md ops Q C st (n + 1) listed a w := by
  have one : ∀ m (listed : Array Bool) (a : Act) (w : World), YieldsIf P ops C oi v a → C w → anyT P md ops Q C st m (listed.setIfInBounds i true) (a.put oi.dst v) w →
      wpOp P ops Q i (fun a' w' => (st i = false → C w') ∧ anyT P md ops Q C st m (listed.setIfInBounds i true) a' w') a w := fun m l a w hy hC H => hy.wpOp hi hC ⟨fun _ => hC, H⟩
  induction n with
  | zero =>
    refine fun l a w _ hr hy hC H => ⟨fun h => absurd hr (by rw [h]; simp), fun j hj => ?_⟩
    by_cases e : j = i
    · subst e; exact one 0 l a w hy hC H
    · exact absurd (ready_mono hj e) (by rw [H.1]; simp)
  | succ n ih =>
    refine fun l a w hl hr hy hC H => ⟨fun h => absurd hr (by rw [h]; simp), fun j hj => ?_⟩
    by_cases e : j = i
    · subst e; exact one (n + 1) l a w hy hC H
    · obtain ⟨hun, oj, hoj, _⟩ := mem_ready.1 hj
      have hst := not_st hwt hr hj
      refine wpOp_mono (fun a' w' k => ?_) (wpOp_putIf hoj (hl j oj hoj e hun (ready_free hr hj hoj)) (fun cs b => hsel i oi cs b hi) (fun cs b => hsel j oj cs b hoj) hQ hy (H.2 j (ready_mono hj e)))
      obtain ⟨hy', hC', H'⟩ := k
      rw [Array.setIfInBounds_comm _ _ (Ne.symm e)] at H'
      exact ⟨hC', ih _ a' w' (hl.more j) (ready_mono hr (Ne.symm e)) hy' (hC' hst) H'⟩

theorem takeT {oi : Oper} {v : Value} {n : Nat} {a : Act} {w : World} (hi : ops[i]? = some oi)
    (hs : Region.noSelect ops = true) (hf : Region.free md ops listed i = true) (hr : (Region.ready md ops listed).contains i = true) (hwt : waits md ops st i = true)
    (hQ : ∀ c a w, Q (.panic c) (a.put oi.dst v) w → Q (.panic c) a w) (hC : C w) (hw : Region.wanted oi (yielded ops a.tmps) = true) (hy : ∀ w, C w → (execOp a.eval oi).run P w = .ok (.value v) w)
    (h : anyT P md ops Q C st n (listed.setIfInBounds i true) (a.put oi.dst v) w) : anyT P md ops Q C st (n + 1) listed a w :=
  take_now hi (Region.noSelect_spec hs) hQ hwt n listed a w (Region.free_spec hi hf) (List.contains_iff_mem.1 hr) (.inl ⟨hw, hy⟩) hC h

/-- Only number i may come up. -/
theorem oneT {o : Oper} {n : Nat} {a : Act} {w : World} (hr : Region.ready md ops listed = [i]) (hi : ops[i]? = some o) (hw : Region.wanted o (yielded ops a.tmps) = true)
    (h : ∀ K : Act → World → Prop, Hid (∀ a' w', (st i = false → C w') → anyT P md ops Q C st n (listed.setIfInBounds i true) a' w' → K a' w') → Oper.wp P o a w K Q) : anyT P md ops Q C st (n + 1) listed a w := by
  refine ⟨fun h0 => (by rw [hr] at h0; cases h0), fun j hj => ?_⟩
  rw [hr] at hj
  obtain rfl : j = i := by simpa using hj
  exact wpOp_step hi fun K hK => by rw [if_pos hw]; exact h K fun a' w' h1 h2 => hK a' w' ⟨h1, h2⟩

/-- Two may come up. -/
theorem twoT {o o' : Oper} {n : Nat} {a : Act} {w : World} (hr : Region.ready md ops listed = [i, j]) (hi : ops[i]? = some o) (hj : ops[j]? = some o') (hw : Region.wanted o (yielded ops a.tmps) = true) (hw' : Region.wanted o' (yielded ops a.tmps) = true)
    (h : ∀ K : Act → World → Prop, Hid (∀ a' w', (st i = false → C w') → anyT P md ops Q C st n (listed.setIfInBounds i true) a' w' → K a' w') → Oper.wp P o a w K Q)
    (h' : ∀ K : Act → World → Prop, Hid (∀ a' w', (st j = false → C w') → anyT P md ops Q C st n (listed.setIfInBounds j true) a' w' → K a' w') → Oper.wp P o' a w K Q) : anyT P md ops Q C st (n + 1) listed a w := by
  refine ⟨fun h0 => (by rw [hr] at h0; cases h0), fun k hk => ?_⟩
  rw [hr] at hk
  simp only [List.mem_cons, List.not_mem_nil, or_false] at hk
  rcases hk with rfl | rfl
  · exact wpOp_step hi fun K hK => by rw [if_pos hw]; exact h K fun a' w' h1 h2 => hK a' w' ⟨h1, h2⟩
  · exact wpOp_step hj fun K hK => by rw [if_pos hw']; exact h' K fun a' w' h1 h2 => hK a' w' ⟨h1, h2⟩

theorem doneT {n : Nat} {a : Act} {w : World} (hr : Region.ready md ops listed = []) (h : Q .normal a w) : anyT P md ops Q C st n listed a w := by
  cases n with
  | zero => exact ⟨hr, h⟩
  | succ n => exact ⟨fun _ => h, by rw [hr]; simp⟩

/-- More may be held from here on. -/
theorem narrowT {C' : World → Prop} (hc : ∀ w, C w → C' w) (n : Nat) : ∀ (listed : Array Bool) (a : Act) (w : World), anyT P md ops Q C st n listed a w → anyT P md ops Q C' st n listed a w := by
  induction n with
  | zero => exact fun _ _ _ h => h
  | succ n ih => exact fun _ _ _ h => ⟨h.1, fun j hj => wpOp_mono (fun a' w' k => ⟨fun e => hc w' (k.1 e), ih _ a' w' k.2⟩) (h.2 j hj)⟩

theorem region_T (st : Nat → Bool) (C : World → Prop) {id : Nat} {a : Act} {w : World} (hm : P.follows .mixedOrders = true)
    (h : anyT P .any ops Q C st ops.size (Array.replicate ops.size false) a w.drew) : (Code.region id ops true).wp P Q a w :=
  wp_region_any hm (any_of_T _ _ _ _ h)
end
end Go.Proofs.Ytmnbdhngadjmiaa
