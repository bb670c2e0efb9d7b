/-
  The laws' worlds: what stays of them; a law's state of threads, the world and the nodes' slice; calls that only read.
-/
import Derived.Test.YtoeilogakfggfaaAw10
namespace Go.Proofs.Ytoeilogakfggfaa
open Go.ChangeShapes Go.WideShapes Go.ChangeAt Go.RowKit
set_option linter.unusedVariables false
set_option linter.unusedSimpArgs false
set_option maxRecDepth 20000

/-- Calls that only read, whatever was drawn. -/
def Reads (F : Nat) (args : Array Value) (w : World) (v : Value) : Prop := ∀ q, Calls Try.prog F args (w.drewN q) fun e w' => e = .returned v ∧ ∃ t, w' = w.drewN t
theorem MB.drewN {W : World} {X : Nat → Prop} {d : Wd} {n T : Nat} {hs : Nat → Hp} {os : Nat → Ts} {s : Sig} {w : World} (h : MB W X d n T hs os s w) (q : Nat) : MB W X d n T hs os s (w.drewN q) := h.below (below_drewN (Below.refl _ w) q)
theorem MB.reads {W : World} {X : Nat → Prop} {d : Wd} {n T : Nat} {hs : Nat → Hp} {os : Nat → Ts} {s : Sig} {w : World} {F : Nat} {args : Array Value} {v : Value} (h : MB W X d n T hs os s w) (hc : ∀ w FW, WS d FW w s → Calls Try.prog F args w fun e w' => e = .returned v ∧ w = w') : Reads F args w v := by
  intro q
  obtain ⟨FW, h1⟩ := (h.drewN q).ws
  refine (hc _ FW h1).mono ?_
  rintro e w' ⟨rfl, rfl⟩
  exact ⟨rfl, q, rfl⟩
/-- A law's state: threads, the world, the nodes' slice. -/
structure LG (W : World) (X : Nat → Prop) (v : Value) (d : Wd) (k n T : Nat) (hs : Nat → Hp) (os : Nat → Ts) (s : Sig) (w : World) : Prop where
  mb : MB W X d n T hs os s w
  row : RowX X rfT w v (refN k)
section
variable {W : World} {X X' : Nat → Prop} {v : Value} {d : Wd} {k n T : Nat} {hs : Nat → Hp} {os : Nat → Ts} {s s' : Sig} {w w' : World}
theorem LG.nx {F : Nat} {args : Array Value} {a : Value} (h : LG W X v d k n T hs os s w) (hc : ∀ FW, WS d FW w s → Calls Try.prog F args w fun e w' => e = .returned a ∧ NxW d FW w s' w') (hl : n = 0 ∨ Le s s' := by first | exact .inl rfl | exact .inr (Le.rs rfl) | exact .inr (Le.refl _)) : Calls Try.prog F args w fun e w' => e = .returned a ∧ LG W X v d k n T hs os s' w' :=
  (h.mb.nxK hc hl).mono fun e w' hp => ⟨hp.1, hp.2.1, h.row.kp hp.2.2⟩
theorem LG.below (h : LG W X v d k n T hs os s w) (hb : Below w.heap.size w w') : LG W X v d k n T hs os s w' := ⟨h.mb.below hb, h.row.kp (h.mb.kb hb)⟩
theorem LG.reset (h : LG W X v d k n T hs os s w) : LG W X v d k 0 0 h0 o0 s w := ⟨⟨h.mb.me.reset, h.mb.bel⟩, h.row⟩
theorem NdI.lg {L m : Nat} (h : NdI W d L m k v w) : LG W (ownX W v) v d k 0 0 h0 o0 (sN L k ns0 []) w := ⟨h.mb, h.rowX⟩
end
def ndsN (k : Nat) : List (Int × Nd) := (List.range k).map fun i => (rfN i, nodeNd i)
theorem ndsN_mem {k i : Nat} (h : i < k) : (rfN i, nodeNd i) ∈ ndsN k := List.mem_map.2 ⟨i, List.mem_range.2 h, rfl⟩
theorem nodeNd_small (i : Nat) : (nodeNd i).small := by unfold Nd.small nodeNd; simp
theorem stt_sN {L k M : Nat} {f : Nat → Ns} {rs : List Re} (hk : k ≤ 50) (hf : ∀ i, i < k → in64 (f i).w0 ∧ in64 (f i).w1) (hrs : ∀ x ∈ rs, GoodR x.rc ∧ in64 x.rc.nw) (hM : rs.length ≤ M) : Stt (ndsN k) M (sN L k f rs) := by
  have hm : ∀ p ∈ (sN L k f rs).ar.pls, p = rootPa ∨ p = entryPa ∨ ∃ i, i < k ∧ p = nodePa i (f i) := by
    intro p hp
    simp only [sN, arN, List.mem_cons, List.mem_map, List.mem_range] at hp
    rcases hp with rfl | rfl | ⟨i, hi, rfl⟩
    · exact .inl rfl
    · exact .inr (.inl rfl)
    · exact .inr (.inr ⟨i, hi, rfl⟩)
  refine ⟨fun x hx => ?_, hrs, hM, fun p hp z hz => ?_, by simp only [sN]; rw [arN_len]; omega, fun p hp => ?_⟩
  · obtain ⟨i, hi, rfl⟩ := List.mem_map.1 hx
    have hi := List.mem_range.1 hi
    exact ⟨_, _, arN_hit hi (by omega), rfl⟩
  · rcases hm p hp with rfl | rfl | ⟨i, hi, rfl⟩
    · cases hz
    · simp only [entryPa, List.mem_cons, List.not_mem_nil, or_false] at hz
      subst hz
      have := mk_range 0 1
      unfold in64; omega
    · simp only [nodePa, List.mem_cons, List.not_mem_nil, or_false] at hz
      rcases hz with rfl | rfl
      · exact (hf i hi).1
      · exact (hf i hi).2
  · rcases hm p hp with rfl | rfl | ⟨i, hi, rfl⟩
    · simp only [rootPa]; omega
    · simp only [entryPa]; omega
    · simp only [nodePa]; omega
theorem in64_small {z : Int} (h : -1000000 ≤ z ∧ z ≤ 1000000) : in64 z := by unfold in64; omega
end Go.Proofs.Ytoeilogakfggfaa
