/-
  What an arena's Alloc makes of a world.
-/
import Derived.Test.YtmhmgdpcibldlaaAl8
namespace Go.Proofs.Ytmhmgdpcibldlaa
open Go.ChangeShapes Go.WideShapes Go.ChangeAt Go.RowKit
set_option linter.unusedVariables false
set_option linter.unusedSimpArgs false
set_option maxRecDepth 20000

/-- A value reads as a node, in memory that isn't FW's. -/
def RdF (FW : Nat → Prop) (w : World) (v : Value) (nd : Nd) : Prop :=
  ∃ A c B d C q, v = ndv nd.inn nd.tag (.slice A nd.ps.length c) (.slice B nd.ks.length d) (.slice C nd.zs.length q) ∧ Lp w A nd.ps.length c nd.ps ∧ Sl w B nd.ks.length d nd.ks ∧ Sl w C nd.zs.length q nd.zs ∧ ∀ ad : Addr, A = some ad ∨ B = some ad ∨ C = some ad → ¬ FW ad.block
section
variable {d : Wd} {FW R R' : Nat → Prop} {w w' w0 : World} {s : Sig} {nd : Nd} {v : Value}
theorem RdF.nil (FW : Nat → Prop) (w : World) (x y : Bool) : RdF FW w (ndv x y (.slice none 0 0) (.slice none 0 0) (.slice none 0 0)) ⟨x, y, [], [], []⟩ :=
  ⟨none, 0, none, 0, none, 0, rfl, Lp.nil _, Sl.nil _, Sl.nil _, fun ad e => by rcases e with e | e | e <;> cases e⟩
theorem next_some {S : As} (h : ∀ i ∈ S.fr, i < S.pls.length) : ∃ pa, S.next.2.pls[S.next.1]? = some pa ∧ pa.cnt = S.cntN := by
  have h1 : ∃ pa, S.next.2.pls[S.next.1]? = some pa := by
    unfold As.next
    cases hf : S.fr with
    | nil => exact ⟨Pa.nil, by simp⟩
    | cons i fr => exact ⟨_, List.getElem?_eq_getElem (h i (by rw [hf]; exact List.mem_cons_self ..))⟩
  obtain ⟨pa, h1⟩ := h1
  exact ⟨pa, h1, by unfold As.cntN; rw [h1]⟩
theorem cntN_le {S : As} (hok : Ok S) (h : ∀ i ∈ S.fr, i < S.pls.length) : S.cntN ≤ 1000000 := by
  unfold As.cntN
  split
  · rename_i p hp
    unfold As.next at hp
    cases hf : S.fr with
    | nil =>
      simp only [hf] at hp
      simp at hp
      subst hp
      simp [Pa.nil]
    | cons i fr =>
      simp only [hf] at hp
      exact hok.cnt p (List.mem_of_getElem? hp)
  · omega
theorem nxW_make (h : WS d FW w s) (hok : Ok s.ar) (hfr : ∀ i ∈ s.ar.fr, i < s.ar.pls.length) (hv : RdF FW w v nd) (hs : nd.small) :
    Calls Try.prog 48 #[ptr d.A, v] w fun e w' => ∃ b, e = .returned (.tuple #[.int .i64 (gMake nd s).1, .bool b]) ∧ NxW d FW w (gMake nd s).2 w' := by
  obtain ⟨FA, h1, h2, h3⟩ := h.ar
  obtain ⟨A, c, B, q, C, r, rfl, k1, k2, k3, k4⟩ := hv
  by_cases hroom : s.ar.room
  · obtain ⟨l, P, Q, hA⟩ := h1
    refine (alloc_walk hA hok hroom s.ar.cntN (next_some hfr) (cntN_le hok hfr) nd.inn nd.tag A B C _ c _ q _ r nd.ps nd.ks nd.zs k1 k2 k3 hs.1 hs.2.1 hs.2.2 (fun ad e hF => k4 ad e (h2 _ hF))).mono ?_
    rintro e w' ⟨rfl, hn⟩
    refine ⟨true, ?_, ?_⟩
    · simp only [gMake, As.make, if_pos hroom]
    · simp only [gMake, As.make, if_pos hroom]
      exact h3 _ _ hn
  · have hno : (s.ar.most : Int) ≤ (s.ar.pls.length : Int) - (s.ar.fr.length : Int) := by unfold As.room at hroom; omega
    obtain ⟨l, P, Q, hA⟩ := h1
    refine (alloc_full hA hok hno _ _ _ _ _).mono ?_
    rintro e w' ⟨rfl, hb⟩
    refine ⟨false, ?_, ?_⟩
    · simp only [gMake, As.make, if_neg hroom]
    · simp only [gMake, As.make, if_neg hroom]
      exact NxW.of_below h hb
theorem nxW_used (h : WS d FW w s) (hok : Ok s.ar) : Calls Try.prog 73 #[ptr d.A] w fun e w' => e = .returned (.int .i64 ((s.ar.pls.length : Int) - (s.ar.fr.length : Int))) ∧ Below w.heap.size w w' := by
  obtain ⟨FA, ⟨l, P, Q, h1⟩, h2, h3⟩ := h.ar
  exact used_walk h1 hok.len hok.fr
theorem nxW_faults (h : WS d FW w s) : Calls Try.prog 24 #[ptr d.A] w fun e w' => e = .returned (.int .i64 (s.ar.flt : Int)) ∧ w = w' := by
  obtain ⟨FA, ⟨l, P, Q, h1⟩, h2, h3⟩ := h.ar
  exact faults_walk h1
theorem nxW_look {i : Nat} {p : Pa} {r : Int} (h : WS d FW w s) (hok : Ok s.ar) (hh : s.ar.hit r = some (i, p)) : Calls Try.prog 106 #[ptr d.A, .int .i64 r] w (MadeN w p.nd) := by
  obtain ⟨FA, h1, h2, h3⟩ := h.ar
  obtain ⟨k1, k2, k3⟩ := hit_some hh
  exact look_yes h1 hok.len hok.cnt k1 k2 k3
theorem nxW_look0 {i : Nat} {p : Pa} {r : Int} (h : WS d FW w s) (hlen : s.ar.pls.length ≤ 70000) (hcnt : ∀ p ∈ s.ar.pls, p.cnt ≤ 1000000) (hh : s.ar.hit r = some (i, p)) : Calls Try.prog 106 #[ptr d.A, .int .i64 r] w (MadeN w p.nd) := by
  obtain ⟨FA, h1, h2, h3⟩ := h.ar
  obtain ⟨k1, k2, k3⟩ := hit_some hh
  exact look_yes h1 hlen hcnt k1 k2 k3
theorem nxW_way {i : Nat} {p : Pa} {r : Int} (h : WS d FW w s) (hok : Ok s.ar) (hh : s.ar.hit r = some (i, p)) (k : Int) : Calls Try.prog 23 #[ptr d.A, .int .i64 r, .int .i64 k] w fun e w' => e = .returned (.int .i64 (wayAt p k)) ∧ w = w' := by
  obtain ⟨FA, h1, h2, h3⟩ := h.ar
  obtain ⟨k1, k2, k3⟩ := hit_some hh
  exact way_yes h1 hok k1 k2 k3 k
/-- How many places are used, by words of the document. -/
def As.used (S : As) : Int := (S.pls.length : Int) - (S.fr.length : Int)
end
end Go.Proofs.Ytmhmgdpcibldlaa
