/-
  Regions that draw their order, as in Tail; those of st may wait for a load by way of others.
-/
import Derived.Test.YtmhmgdpcibldlaaPa
namespace Go.Proofs.Ytmhmgdpcibldlaa
open Go Go.RowKit

section
variable {P : Program} {ops : Array Oper} {Q : Exit → Act → World → Prop} {md : Region.Mode} {C : World → Prop} {st : Nat → Bool} {i j : Nat} {listed : Array Bool}
/-- Whatever is listed, what it waits for is. -/
def closed (md : Region.Mode) (ops : Array Oper) (listed : Array Bool) : Prop := ∀ j o, ops[j]? = some o → listed.getD j false = true → ∀ e ∈ o.after, Region.binds md e = true → listed.getD e.on false = true
def closedB (md : Region.Mode) (ops : Array Oper) (listed : Array Bool) : Bool := (List.range ops.size).all fun j => !listed.getD j false || ((ops[j]?).any fun o => o.after.all fun e => !Region.binds md e || listed.getD e.on false)
theorem closed_of (h : closedB md ops listed = true) : closed md ops listed := by
  intro j o ho hl e he hb
  unfold closedB at h
  rw [List.all_eq_true] at h
  have := h j (List.mem_range.2 (Array.getElem?_eq_some_iff.1 ho).1)
  rw [hl, ho] at this
  simp only [Bool.not_true, Bool.false_or, Option.any_some, Array.all_eq_true_iff_forall_mem] at this
  have := this e he
  rw [hb] at this
  simpa using this
theorem closed_more (h : closed md ops listed) (hj : j ∈ Region.ready md ops listed) : closed md ops (listed.setIfInBounds j true) := by
  have mono : ∀ k, listed.getD k false = true → (listed.setIfInBounds j true).getD k false = true := by
    intro k hk
    by_cases hs : k < listed.size
    · by_cases e : j = k
      · subst e; simp [Array.getD, hs]
      · simp [Array.getD, hs] at hk ⊢
        rw [Array.getElem_setIfInBounds_ne hs e]
        exact hk
    · simp [Array.getD, hs] at hk
  intro k o ho hl e he hb
  apply mono
  by_cases e1 : j = k
  · subst e1
    exact ready_waits hj ho he hb
  · refine h k o ho ?_ e he hb
    by_cases hs : k < listed.size
    · simp [Array.getD, hs] at hl ⊢
      rw [Array.getElem_setIfInBounds_ne hs e1] at hl
      exact hl
    · simp [Array.getD, hs] at hl
/-- Number s waits for number i, by way of others. -/
def dep (md : Region.Mode) (ops : Array Oper) : Nat → Nat → Nat → Bool
  | 0, _, _ => false
  | n + 1, s, i => (ops[s]?).any fun o => o.after.any fun e => Region.binds md e && (e.on == i || dep md ops n e.on i)
theorem dep_listed (hc : closed md ops listed) (n : Nat) : ∀ (s : Nat) (o : Oper), ops[s]? = some o → (∀ e ∈ o.after, Region.binds md e = true → listed.getD e.on false = true) → dep md ops n s i = true → listed.getD i false = true := by
  induction n with
  | zero => intro s o _ _ h; cases h
  | succ n ih =>
    intro s o ho hl h
    simp only [dep, ho, Option.any_some, Array.any_eq_true, Bool.and_eq_true, Bool.or_eq_true, beq_iff_eq] at h
    obtain ⟨k, hk, hb, he⟩ := h
    have h1 := hl _ (Array.getElem_mem hk) hb
    rcases he with he | he
    · rw [← he]; exact h1
    · cases n with
      | zero => cases he
      | succ n =>
        cases ho2 : ops[(o.after[k]).on]? with
        | none => simp [dep, ho2] at he
        | some o2 => exact ih _ o2 ho2 (hc _ o2 ho2 h1) he
def waitsW (md : Region.Mode) (ops : Array Oper) (st : Nat → Bool) (i : Nat) : Bool := (List.range ops.size).all fun s => !st s || dep md ops ops.size s i
theorem not_stW (hc : closed md ops listed) (hw : waitsW md ops st i = true) (hi : i ∈ Region.ready md ops listed) (hj : j ∈ Region.ready md ops listed) : st j = false := by
  cases hst : st j with
  | false => rfl
  | true =>
    exfalso
    obtain ⟨_, o, ho, _⟩ := mem_ready.1 hj
    unfold waitsW at hw
    rw [List.all_eq_true] at hw
    have := hw j (List.mem_range.2 (Array.getElem?_eq_some_iff.1 ho).1)
    rw [hst] at this
    simp only [Bool.not_true, Bool.false_or] at this
    exact both_no (ready_un hi) (dep_listed hc _ j o ho (fun e he hb => ready_waits hj ho he hb) this)
theorem take_nowW {oi : Oper} {v : Value} (hi : ops[i]? = some oi) (hsel : ∀ (j : Nat) (o : Oper) cs b, ops[j]? = some o → o.op ≠ .select cs b)
    (hQ : ∀ c a w, Q (.panic c) (a.put oi.dst v) w → Q (.panic c) a w) (hwt : waitsW md ops st i = true) (n : Nat) :
    ∀ (listed : Array Bool) (a : Act) (w : World), closed md ops listed → Loose md ops oi i listed → i ∈ Region.ready md ops listed → YieldsIf P ops C oi v a → C w →
      anyT P md ops Q C st n (listed.setIfInBounds i true) (a.put oi.dst v) w → anyT P md ops Q C st (n + 1) listed a w := by
  have one : ∀ m (listed : Array Bool) (a : Act) (w : World), YieldsIf P ops C oi v a → C w → anyT P md ops Q C st m (listed.setIfInBounds i true) (a.put oi.dst v) w →
      wpOp P ops Q i (fun a' w' => (st i = false → C w') ∧ anyT P md ops Q C st m (listed.setIfInBounds i true) a' w') a w := fun m l a w hy hC H => hy.wpOp hi hC ⟨fun _ => hC, H⟩
  induction n with
  | zero =>
    refine fun l a w _ _ hr hy hC H => ⟨fun h => absurd hr (by rw [h]; simp), fun j hj => ?_⟩
    by_cases e : j = i
    · subst e; exact one 0 l a w hy hC H
    · exact absurd (ready_mono hj e) (by rw [H.1]; simp)
  | succ n ih =>
    refine fun l a w hcl hl hr hy hC H => ⟨fun h => absurd hr (by rw [h]; simp), fun j hj => ?_⟩
    by_cases e : j = i
    · subst e; exact one (n + 1) l a w hy hC H
    · obtain ⟨hun, oj, hoj, _⟩ := mem_ready.1 hj
      have hst := not_stW hcl hwt hr hj
      refine wpOp_mono (fun a' w' k => ?_) (wpOp_putIf hoj (hl j oj hoj e hun (ready_free hr hj hoj)) (fun cs b => hsel i oi cs b hi) (fun cs b => hsel j oj cs b hoj) hQ hy (H.2 j (ready_mono hj e)))
      obtain ⟨hy', hC', H'⟩ := k
      rw [Array.setIfInBounds_comm _ _ (Ne.symm e)] at H'
      exact ⟨hC', ih _ a' w' (closed_more hcl hj) (hl.more j) (ready_mono hr (Ne.symm e)) hy' (hC' hst) H'⟩
theorem takeW {oi : Oper} {v : Value} {n : Nat} {a : Act} {w : World} (hi : ops[i]? = some oi)
    (hs : Region.noSelect ops = true) (hf : Region.free md ops listed i = true) (hr : (Region.ready md ops listed).contains i = true) (hcl : closedB md ops listed = true) (hwt : waitsW md ops st i = true)
    (hQ : ∀ c a w, Q (.panic c) (a.put oi.dst v) w → Q (.panic c) a w) (hC : C w) (hw : Region.wanted oi (yielded ops a.tmps) = true) (hy : ∀ w, C w → (execOp a.eval oi).run P w = .ok (.value v) w)
    (h : anyT P md ops Q C st n (listed.setIfInBounds i true) (a.put oi.dst v) w) : anyT P md ops Q C st (n + 1) listed a w :=
  take_nowW hi (Region.noSelect_spec hs) hQ hwt n listed a w (closed_of hcl) (Region.free_spec hi hf) (List.contains_iff_mem.1 hr) (.inl ⟨hw, hy⟩) hC h
end
end Go.Proofs.Ytmhmgdpcibldlaa
