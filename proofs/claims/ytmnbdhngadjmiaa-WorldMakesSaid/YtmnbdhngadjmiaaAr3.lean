/-
  What arena's New, Used, Faults, Most, has and right return.
-/
import Derived.Test.YtmnbdhngadjmiaaAr2
namespace Go.Proofs.Ytmnbdhngadjmiaa
open Go.ChangeShapes Go.WideShapes Go.ChangeAt Go.RowKit
set_option linter.unusedVariables false
set_option linter.unusedSimpArgs false
set_option maxRecDepth 20000

/-- An arena, whatever its slices are. -/
def Arn (d : Bool) (F : Nat → Prop) (w : World) (a : Nat) (S : As) : Prop := ∃ l P Q, Ar d F w a S l P Q
/-- Behind a call: the arena is S', and nothing else has changed. -/
def Nx (d : Bool) (F : Nat → Prop) (w : World) (a : Nat) (S' : As) (w' : World) : Prop := ∃ F', Arn d F' w' a S' ∧ Only F w w' ∧ ∀ b, F' b → F b ∨ w.heap.size ≤ b
theorem Nx.same {d : Bool} {F : Nat → Prop} {w : World} {a : Nat} {S : As} (h : Arn d F w a S) : Nx d F w a S w := ⟨F, h, Only.refl _ _, fun _ hb => .inl hb⟩
theorem Nx.of {d : Bool} {F : Nat → Prop} {w w' : World} {a : Nat} {S : As} (h : Arn d F w' a S) (ho : Only F w w') : Nx d F w a S w' := ⟨F, h, ho, fun _ hb => .inl hb⟩

theorem Ar.head0 {F : Nat → Prop} {w : World} {a : Nat} {S : As} {l : List (Pa × Vs)} {P Q : Value} (h : Ar false F w a S l P Q) : w.cell? ⟨a, 0, none⟩ = some (.int .i64 (S.most : Int)) ∧ w.cell? ⟨a, 1, none⟩ = some P ∧ w.cell? ⟨a, 2, none⟩ = some Q ∧ w.cell? ⟨a, 3, none⟩ = some (.int .i64 (S.flt : Int)) := by
  refine ⟨?_, ?_, ?_, ?_⟩ <;> (rw [cell_of_row w a _ _ _ (0, 0) h.head]; rfl)
theorem Ar.head1 {F : Nat → Prop} {w : World} {a : Nat} {S : As} {l : List (Pa × Vs)} {P Q : Value} (h : Ar true F w a S l P Q) : w.cell? ⟨a, 0, none⟩ = some P ∧ w.cell? ⟨a, 1, none⟩ = some Q ∧ w.cell? ⟨a, 2, none⟩ = some (.int .i64 (S.most : Int)) ∧ w.cell? ⟨a, 3, none⟩ = some (.int .i64 (S.flt : Int)) := by
  refine ⟨?_, ?_, ?_, ?_⟩ <;> (rw [cell_of_row w a _ _ _ (0, 0) h.head]; rfl)
theorem Ar.shapeP {d : Bool} {F : Nat → Prop} {w : World} {a : Nat} {S : As} {l : List (Pa × Vs)} {P Q : Value} (h : Ar d F w a S l P Q) : ∃ A c, P = .slice A l.length c := by
  rcases h.row.2 with ⟨rfl, h0⟩ | ⟨g, cap, cur, rfl, _⟩
  · exact ⟨none, 0, by rw [h0]⟩
  · exact ⟨_, cap, rfl⟩

/-- A new arena. -/
def As.new (m : Nat) : As := ⟨m, [], [], 0⟩
def arMost (m : Int) : Nat := (min (max m 0) 65536).toNat
theorem ar_new {d : Bool} (w : World) (m : Nat) (t : TypeId) (ht : hdT d = t) : Ar d (fun b => b = w.heap.size) (w.alloc (.cells (hdOf d m (.slice none 0 0) (.slice none 0 0) 0) t)) w.heap.size (As.new m) [] (.slice none 0 0) (.slice none 0 0) := by
  subst ht
  refine ⟨fun b hb => by subst hb; simp, heap_alloc_new w _, rfl, rfl, World.ownsRow_nil _ _ _ _, fun b e => (by cases e), Qn.nil _, fun b e => (by cases e), fun x hx => (by cases hx), ?_⟩
  intro i j x y g hi
  simp at hi

theorem ar_newI (w : World) (m : Nat) (k : Int) (hk : k = (m : Int)) : Ar false (fun b => b = w.heap.size) (w.alloc (.cells #[.int .i64 k, .slice none 0 0, .slice none 0 0, .int .i64 0] 90)) w.heap.size (As.new m) [] (.slice none 0 0) (.slice none 0 0) := by
  subst hk; exact ar_new (d := false) w m _ rfl
set_option maxHeartbeats 400000 in
theorem arNew_walk (m : Int) (w : World) :
    Calls Try.prog 48 #[.int .i64 m] w fun e w' => e = .returned (ptr w.heap.size) ∧ Arn false (fun b => b = w.heap.size) w' w.heap.size (As.new (arMost m)) ∧ Below w.heap.size w w' := by
  go_enter Try.func48, Try.ntmps48
  go_wp2
  all_goals go_ret
  all_goals exact ⟨rfl, ⟨_, _, _, ar_newI w _ _ (by unfold arMost; omega)⟩, below_new _ _⟩

section
variable {F : Nat → Prop} {w : World} {a : Nat} {S : As} {l : List (Pa × Vs)} {P Q : Value}

set_option maxHeartbeats 400000 in
theorem used_walk (h : Ar false F w a S l P Q) (hp : S.pls.length ≤ 70000) (hf : S.fr.length ≤ 70000) :
    Calls Try.prog 15 #[ptr a] w fun e w' => e = .returned (.int .i64 ((S.pls.length : Int) - (S.fr.length : Int))) ∧ Below w.heap.size w w' := by
  obtain ⟨c0, c1, c2, c3⟩ := h.head0
  obtain ⟨A, c, rfl⟩ := h.shapeP
  obtain ⟨B, n, c', rfl, hn, _⟩ := h.que.form
  have hl := h.lenP
  rw [← hl] at c1
  rw [hn] at c2
  clear hl hn h
  generalize S.pls.length = p at *
  generalize S.fr.length = q at *
  have h1 : IntKind.i64.wrap ((p : Int) - (q : Int)) = (p : Int) - (q : Int) := IntWalk.i64_in _ (by omega)
  go_enter Try.func15, Try.ntmps15
  go_wp2
  go_quiet (fail)
  go_wp2
  go_ret
  exact ⟨by first | rfl | (simp), by first | exact below_drewN (Below.refl _ _) _ | exact (Below.refl _ _).drew⟩

theorem used_nil (w : World) : Calls Try.prog 15 #[nilp] w fun e w' => e = .returned (.int .i64 0) ∧ w = w' := by
  go_enter Try.func15, Try.ntmps15
  go_wp2
  go_ret
  exact ⟨rfl, rfl⟩

set_option maxHeartbeats 400000 in
theorem faults_walk (h : Ar false F w a S l P Q) :
    Calls Try.prog 17 #[ptr a] w fun e w' => e = .returned (.int .i64 (S.flt : Int)) ∧ w = w' := by
  obtain ⟨c0, c1, c2, c3⟩ := h.head0
  go_enter Try.func17, Try.ntmps17
  go_wp2
  go_ret
  exact ⟨rfl, rfl⟩
theorem faults_nil (w : World) : Calls Try.prog 17 #[nilp] w fun e w' => e = .returned (.int .i64 0) ∧ w = w' := by
  go_enter Try.func17, Try.ntmps17
  go_wp2
  go_ret
  exact ⟨rfl, rfl⟩

set_option maxHeartbeats 400000 in
theorem most_walk (h : Ar false F w a S l P Q) :
    Calls Try.prog 16 #[ptr a] w fun e w' => e = .returned (.int .i64 (S.most : Int)) ∧ w = w' := by
  obtain ⟨c0, c1, c2, c3⟩ := h.head0
  go_enter Try.func16, Try.ntmps16
  go_wp2
  go_ret
  exact ⟨rfl, rfl⟩
theorem most_nil (w : World) : Calls Try.prog 16 #[nilp] w fun e w' => e = .returned (.int .i64 0) ∧ w = w' := by
  go_enter Try.func16, Try.ntmps16
  go_wp2
  go_ret
  exact ⟨rfl, rfl⟩

/-- A reference is right: of place i. -/
def Hit (S : As) (r : Int) (i : Nat) : Prop := ∃ p, S.pls[i]? = some p ∧ p.used = true ∧ mk i p.cnt = r
theorem Ar.at_ {d : Bool} (h : Ar d F w a S l P Q) {i : Nat} {p : Pa} (hp : S.pls[i]? = some p) : ∃ x, l[i]? = some x ∧ x.1 = p := by
  rw [h.pls, List.getElem?_map] at hp
  cases e : l[i]? with
  | none => rw [e] at hp; cases hp
  | some x => rw [e] at hp; exact ⟨x, rfl, by simpa using hp⟩

/-- The cells of a place. -/
theorem Ar.cells0 (h : Ar false F w a S l P Q) {i : Nat} {x : Pa × Vs} (hi : l[i]? = some x) : ∃ g c, P = .slice (some ⟨g, 0, none⟩) l.length c ∧ g < w.heap.size ∧ F g ∧ i < l.length ∧
    w.cell? ⟨g, i * 10, none⟩ = some (.bool x.1.used) ∧ w.cell? ⟨g, i * 10 + 1, none⟩ = some (.int .u32 (x.1.cnt : Int)) ∧ w.cell? ⟨g, i * 10 + 2, none⟩ = some (.bool x.1.nd.inn) ∧ w.cell? ⟨g, i * 10 + 3, none⟩ = some (.bool x.1.nd.tag) ∧ w.cell? ⟨g, i * 10 + 4, none⟩ = some x.2.pv ∧ w.cell? ⟨g, i * 10 + 5, none⟩ = some x.2.kv ∧ w.cell? ⟨g, i * 10 + 6, none⟩ = some x.2.zv ∧ w.cell? ⟨g, i * 10 + 7, none⟩ = some x.2.wv ∧ w.cell? ⟨g, i * 10 + 8, none⟩ = some (.int .i64 x.1.info) ∧ w.cell? ⟨g, i * 10 + 9, none⟩ = some (.bool x.1.mark) ∧ ∀ j, w.frozen? ⟨g, j, none⟩ = false := by
  obtain ⟨g, c, hP, hg, hF, _, _, _, hc, hz⟩ := h.formP hi
  exact ⟨g, c, hP, hg, hF, (List.getElem?_eq_some_iff.1 hi).1, by simpa [cellsOf] using hc 0 (by omega), hc 1 (by omega), hc 2 (by omega), hc 3 (by omega), hc 4 (by omega), hc 5 (by omega), hc 6 (by omega), hc 7 (by omega), hc 8 (by omega), hc 9 (by omega), hz⟩

theorem pl_of_mk {i : Nat} {c r : Int} (hi : i < 70000) (h : mk i c = r) : pl r = (i : Int) := by rw [← h, pl_mk]; omega

set_option maxHeartbeats 1000000 in
theorem right_yes (h : Ar false F w a S l P Q) {r : Int} {i : Nat} {x : Pa × Vs} (hi : l[i]? = some x) (hu : x.1.used = true) (hr : mk i x.1.cnt = r) (hl : S.pls.length ≤ 70000) (hc : x.1.cnt ≤ 1000000) {g c : Nat} (hP : P = .slice (some ⟨g, 0, none⟩) l.length c) :
    Calls Try.prog 51 #[ptr a, .int .i64 r] w fun e w' => e = .returned (.pointer (some ⟨g, i * 10, none⟩)) ∧ w = w' := by
  obtain ⟨c0, c1, c2, c3⟩ := h.head0
  obtain ⟨g', c', hP', hg, hF, hil, e0, e1, _, _, _, _, _, _, _, _, hz⟩ := h.cells0 hi
  rw [hP] at hP'
  injection hP' with hP1 _ hP2
  injection hP1 with hP1
  injection hP1 with hP1
  subst hP1 hP2
  rw [hu] at e0
  have hln := h.lenP
  rw [hP] at c1
  have hpl : pl r = (i : Int) := pl_of_mk (by omega) hr
  have HR := Lib.hid hr
  have HP := Lib.hid hpl
  generalize x.1.cnt = n at *
  generalize hL : l.length = L at *
  clear hr hpl h hP hL hi hu
  have i0 : (0 : Int) ≤ (i : Int) := by omega
  have i1 : (i : Int) < (L : Int) := by omega
  go_enter Try.func51, Try.ntmps51
  go_wp2_with fail
  refine (place_walk r _).mono ?_
  rintro e w' ⟨rfl, rfl⟩
  rw [HP.out]
  go_wp2_with fail
  refine (of_walk i n (by omega) _).mono ?_
  rintro e w' ⟨rfl, rfl⟩
  rw [HR.out]
  go_wp2
  go_ret
  exact ⟨rfl, rfl⟩

end
end Go.Proofs.Ytmnbdhngadjmiaa
