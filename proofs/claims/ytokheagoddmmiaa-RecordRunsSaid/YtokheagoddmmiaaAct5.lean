/-
  What the table's calls return for the entry that an act speaks of, and what stands behind them.
-/
import Derived.Test.YtokheagoddmmiaaRun5
namespace Go.Proofs.Ytokheagoddmmiaa
open Go.ChangeShapes Go.WideShapes Go.ChangeAt Go.RowKit
set_option linter.unusedVariables false
set_option linter.unusedSimpArgs false
set_option maxRecDepth 20000

/-- The loop's state ahead of act k: L entries. -/
def St (w : World) (a mo k L : Nat) (hv : Value) (wr : World) : Prop := ∃ F G l e P, RI w a mo F G l e P hv [] wr ∧ Rel l e ∧ l.length ≤ k ∧ e.length = L

def It.nil : It := ⟨Rc.nil, 0, false, .slice none 0 0, .slice none 0 0⟩
/-- The entry that an act speaks of: none, or one of those there are. -/
def EOK (e : List It) (nn iv : Int) (y : It) : Prop := (iv = -1 ∧ (nn < 1 ∨ (e.length : Int) < nn) ∧ y = It.nil) ∨ ∃ i : Nat, iv = (i : Int) ∧ nn = (i : Int) + 1 ∧ e[i]? = some y
/-- Its form. -/
theorem EOK.form {w wr : World} {a mo : Nat} {F G : Nat → Prop} {l e : List It} {P Hv : Value} {K : List (Nat × Array Value × TypeId)} {nn iv : Int} {y : It} (h : EOK e nn iv y) (hR : RI w a mo F G l e P Hv K wr) :
    ∃ r s b A n c B m d, y = ⟨r, s, b, .slice A n c, .slice B m d⟩ ∧ Sl wr A n c r.ns ∧ Sl wr B m d r.is ∧ n ≤ 20 ∧ m ≤ 20 := by
  rcases h with ⟨_, _, rfl⟩ | ⟨i, _, _, hi⟩
  · exact ⟨Rc.nil, 0, false, none, 0, 0, none, 0, 0, rfl, Sl.nil _, Sl.nil _, by omega, by omega⟩
  · have hm := hR.en.mem y (List.mem_of_getElem? hi)
    obtain ⟨r, s, b, nv, iv⟩ := y
    obtain ⟨h1, h2, _, h3, h4⟩ := hm
    simp only at h1 h2 h3 h4
    obtain ⟨A, n, c, rfl⟩ := h1.shape
    obtain ⟨B, m, d, rfl⟩ := h2.shape
    have e1 := h1.sl.len
    have e2 := h2.sl.len
    exact ⟨r, s, b, A, n, c, B, m, d, rfl, h1.sl, h2.sl, by omega, by omega⟩

/-- Behind an act, ahead of the store of its entry. -/
def Fin (w : World) (a mo k u : Nat) (iv : Int) (be : Nat) (X : Nat × Array Value × TypeId) (L : Nat) (hv : Value) (wc : World) : Prop := ∃ F G l e P y, RI w a mo F G l e P hv [(be, blkE y, enT), X] wc ∧ l.length = L ∧ L ≤ k + 1 ∧ e.length = L ∧
  ((u % 6 = 0 ∨ iv = -1) ∧ Rel l e ∨ u % 6 ≠ 0 ∧ ∃ i : Nat, iv = (i : Int) ∧ (∃ x, e[i]? = some x) ∧ ItM wc G y ∧ Rel l (e.set i y))


section
variable {w wr wr' : World} {a mo k u L be : Nat} {F G : Nat → Prop} {l e l' : List It} {P Hv : Value} {K : List (Nat × Array Value × TypeId)} {nn iv : Int} {y y' : It} {X : Nat × Array Value × TypeId}
/-- The table's record of that number, too, is there or isn't. -/
theorem EOK.both (h : EOK e nn iv y) (hr : Rel l e) : (iv = -1 ∧ (nn < 1 ∨ (l.length : Int) < nn) ∧ y = It.nil) ∨ ∃ (i : Nat) (x : It), iv = (i : Int) ∧ nn = (i : Int) + 1 ∧ e[i]? = some y ∧ l[i]? = some x ∧ x.rc = y.rc ∧ x.st = y.st ∧ x.all = y.all := by
  rcases h with ⟨h1, h2, h3⟩ | ⟨i, h1, h2, h3⟩
  · exact .inl ⟨h1, by rw [hr.len]; exact h2, h3⟩
  · have hi : i < l.length := by rw [hr.len]; exact (List.getElem?_eq_some_iff.1 h3).1
    have hx := List.getElem?_eq_getElem hi
    exact .inr ⟨i, _, h1, h2, h3, hx, hr.at_ i _ _ hx h3⟩
theorem state_e (h : Tb F wr a mo l P) (hr : Rel l e) (heo : EOK e nn iv y) (hl : l.length ≤ 100000) : Calls Try.prog 17 #[ptr a, .int .i64 nn] wr fun e w' => e = .returned (.int .u8 y.st) ∧ wr = w' := by
  rcases heo.both hr with ⟨_, h2, rfl⟩ | ⟨i, x, _, h2, h3, h4, h5, h6, h7⟩
  · exact state_no h h2
  · rw [← h6]; exact state_yes h h4 h2 hl
theorem all_e (h : Tb F wr a mo l P) (hr : Rel l e) (heo : EOK e nn iv y) (hl : l.length ≤ 100000) : Calls Try.prog 19 #[ptr a, .int .i64 nn] wr fun e w' => e = .returned (.bool y.all) ∧ wr = w' := by
  rcases heo.both hr with ⟨_, h2, rfl⟩ | ⟨i, x, _, h2, h3, h4, h5, h6, h7⟩
  · exact all_no h h2
  · rw [← h7]; exact all_yes h h4 h2 hl
theorem look_e (h : Tb F wr a mo l P) (hr : Rel l e) (heo : EOK e nn iv y) (hl : l.length ≤ 100000) : Calls Try.prog 16 #[ptr a, .int .i64 nn] wr (MadeR wr y.rc) := by
  rcases heo.both hr with ⟨_, h2, rfl⟩ | ⟨i, x, _, h2, h3, h4, h5, h6, h7⟩
  · exact look_no h h2
  · rw [← h5]; exact look_yes h h4 h2 hl
/-- Behind a set: the table; its records tell what the entries tell, but for the one. -/
def Setd (w : World) (a mo : Nat) (F G : Nat → Prop) (l e : List It) (P Hv : Value) (K : List (Nat × Array Value × TypeId)) (iv : Int) (y' : It) (w' : World) : Prop :=
  ∃ l', RI w a mo F G l' e P Hv K w' ∧ l'.length = l.length ∧ (iv = -1 → Rel l' e) ∧ ∀ i : Nat, iv = (i : Int) → Rel l' (e.set i y')
theorem set_e (h : RI w a mo F G l e P Hv K wr) (hr : Rel l e) (heo : EOK e nn iv y) (hl : l.length ≤ 100000) (s : Int) : Calls Try.prog 18 #[ptr a, .int .i64 nn, .int .u8 s] wr fun e' w' => e' = .returned (.tuple #[]) ∧ Setd w a mo F G l e P Hv K iv { y with st := s } w' := by
  rcases heo.both hr with ⟨h1, h2, rfl⟩ | ⟨i, x, h1, h2, h3, h4, h5, h6, h7⟩
  · refine (set_no h.tb h2 s).mono ?_
    rintro e' w' ⟨rfl, rfl⟩
    exact ⟨rfl, l, h, rfl, fun _ => hr, fun i hi => by omega⟩
  · refine (set_yes h.tb h4 h2 hl s).mono ?_
    rintro e' w' ⟨rfl, ht, ho⟩
    refine ⟨rfl, _, h.tab ht ho (fun b hb => .inl hb), by simp, fun hi => by omega, fun j hj => ?_⟩
    obtain rfl : i = j := by omega
    exact hr.set i ⟨h5, rfl, h7⟩
theorem setAll_e (h : RI w a mo F G l e P Hv K wr) (hr : Rel l e) (heo : EOK e nn iv y) (hl : l.length ≤ 100000) : Calls Try.prog 20 #[ptr a, .int .i64 nn] wr fun e' w' => e' = .returned (.tuple #[]) ∧ Setd w a mo F G l e P Hv K iv { y with all := true } w' := by
  rcases heo.both hr with ⟨h1, h2, rfl⟩ | ⟨i, x, h1, h2, h3, h4, h5, h6, h7⟩
  · refine (setAll_no h.tb h2).mono ?_
    rintro e' w' ⟨rfl, rfl⟩
    exact ⟨rfl, l, h, rfl, fun _ => hr, fun i hi => by omega⟩
  · refine (setAll_yes h.tb h4 h2 hl).mono ?_
    rintro e' w' ⟨rfl, ht, ho⟩
    refine ⟨rfl, _, h.tab ht ho (fun b hb => .inl hb), by simp, fun hi => by omega, fun j hj => ?_⟩
    obtain rfl : i = j := by omega
    exact hr.set i ⟨h5, h6, rfl⟩
theorem Fin.of (hR : RI w a mo F G l e P Hv [(be, blkE y', enT), X] wr) (heo : EOK e nn iv y) (hy : y'.nv = y.nv ∧ y'.iv = y.iv ∧ y'.rc = y.rc) (hl : l.length = L) (hk : L ≤ k) (he : e.length = L) (h6 : u % 6 ≠ 0) (h1 : iv = -1 → Rel l e) (h2 : ∀ i : Nat, iv = (i : Int) → Rel l (e.set i y')) : Fin w a mo k u iv be X L Hv wr := by
  refine ⟨F, G, l, e, P, y', hR, hl, by omega, he, ?_⟩
  rcases heo with ⟨e1, _, _⟩ | ⟨i, e1, _, hi⟩
  · exact .inl ⟨.inr e1, h1 e1⟩
  · have hm := hR.en.mem y (List.mem_of_getElem? hi)
    obtain ⟨y1, y2, y3⟩ := hy
    exact .inr ⟨h6, i, e1, ⟨y, hi⟩, ⟨by rw [y1, y3]; exact hm.ns, by rw [y2, y3]; exact hm.is, by rw [y1, y2]; exact hm.own, by rw [y3]; exact hm.few⟩, h2 i e1⟩
/-- Nothing has changed. -/
theorem Fin.same (hR : RI w a mo F G l e P Hv [(be, blkE y, enT), X] wr) (hr : Rel l e) (heo : EOK e nn iv y) (hk : l.length ≤ k) (he : e.length = L) (h6 : u % 6 ≠ 0) : Fin w a mo k u iv be X L Hv wr := by
  have hlen := hr.len
  refine Fin.of hR heo ⟨rfl, rfl, rfl⟩ (by omega) (by omega) he h6 (fun _ => hr) (fun i hi => ?_)
  rcases heo with ⟨e1, _, _⟩ | ⟨j, e1, _, hj⟩
  · omega
  · obtain rfl : i = j := by omega
    exact hr.same hj
end

/-- The statement of a function's text that is block n. -/
def findBlock (n : Nat) : Code → Option Code
  | .block m c => if m = n then some (.block m c) else findBlock n c
  | .seq a b => match findBlock n a with
    | some c => some c
    | none => findBlock n b
  | .cond _ a b => match findBlock n a with
    | some c => some c
    | none => findBlock n b
  | .loop c => findBlock n c
  | .scope c => findBlock n c
  | _ => none
/-- The switch in the law's loop. -/
noncomputable def switchC : Code := ((Try.f3.body.bind (findBlock 2)).getD .skip)
end Go.Proofs.Ytokheagoddmmiaa
