/-
  For the law RecordKeeps: what stands while the record is filled, and while it is changed.
-/
import Derived.Test.YtokheagoddmmiaaCopy5
import Derived.Test.YtokheagoddmmiaaLawB
namespace Go.Proofs.Ytokheagoddmmiaa
open Go.ChangeShapes Go.WideShapes Go.ChangeAt Go.RowKit
set_option linter.unusedVariables false
set_option linter.unusedSimpArgs false
set_option maxRecDepth 20000

theorem blk_grown {X X' : World} {s B : Nat} {cs : Array Value} {t el : TypeId} {v : Value} {zs : List Int} (h : X.heap[s]? = some (.cells cs t (0, 0))) (hr : Row el B X v zs) (hg : X.grownBy X' v.ownBlock) (hne : t ≠ el) : X'.heap[s]? = some (.cells cs t (0, 0)) :=
  (hg.block s (Array.getElem?_eq_some_iff.1 h).1 (fun e => hne (Ty.one ⟨_, h⟩ (own_ty hr e.symm)))).trans h

/-- The record while it is filled: its variable, its two rows. -/
structure LI (w1 : World) (b : Nat) (u v : Value) (zs : List Int) (wr : World) : Prop where
  box : Six wr b u v 1 0 0 0
  nod : Row 30 (b + 1) wr u zs
  inf : Row 2 (b + 1) wr v zs
  bel : Below b w1 wr
theorem LI.next {w1 X : World} {b : Nat} {u v u0 v0 : Value} {zs : List Int} (g : Six X b u0 v0 1 0 0 0) (hu : Row 30 (b + 1) X u zs) (hv : Row 2 (b + 1) X v zs) (hb : Below b w1 X) :
    LI w1 b u v zs ((X.setCell ⟨b, 0, none⟩ u).setCell ⟨b, 1, none⟩ v) :=
  ⟨(g.set0 u).set1 v, (hu.set_below (p := ⟨b, 0, none⟩) (Nat.lt_succ_self b) u).set_below (p := ⟨b, 1, none⟩) (Nat.lt_succ_self b) v, (hv.set_below (p := ⟨b, 0, none⟩) (Nat.lt_succ_self b) u).set_below (p := ⟨b, 1, none⟩) (Nat.lt_succ_self b) v, (hb.setCell (p := ⟨b, 0, none⟩) (Nat.le_refl _) u).setCell (p := ⟨b, 1, none⟩) (Nat.le_refl _) v⟩
theorem li_some {w1 : World} {b : Nat} {u v : Value} {zs : List Int} {wr : World} (h : Hid (LI w1 b u v zs wr)) : Hid (∃ u v, LI w1 b u v zs wr) := ⟨u, v, h⟩

theorem only_put6 (w : World) (R : Nat) (u v : Value) (k y o n : Int) : Only (fun x => x = R) w (put6 w R u v k y o n) :=
  (((((Only.set (fun x => x = R) w (p := ⟨R, 0, none⟩) rfl u).then (Only.set (fun x => x = R) _ (p := ⟨R, 1, none⟩) rfl v)).then (Only.set (fun x => x = R) _ (p := ⟨R, 2, none⟩) rfl _)).then (Only.set (fun x => x = R) _ (p := ⟨R, 3, none⟩) rfl _)).then (Only.set (fun x => x = R) _ (p := ⟨R, 4, none⟩) rfl _)).then (Only.set (fun x => x = R) _ (p := ⟨R, 5, none⟩) rfl _)

/-- What stands while the record is changed: the table holds the record, the copy that is wanted stands, and what is changed is neither's. -/
structure KI (w : World) (b b2 a : Nat) (F : Nat → Prop) (l : List Int) (u2 v2 u v : Value) (zs ys : List Int) (wr : World) : Prop where
  box : Six wr b u v 1 0 0 0
  nod : Row 30 w.heap.size wr u zs
  inf : Row 2 w.heap.size wr v ys
  lenz : zs.length = l.length
  leny : ys.length = l.length
  wbox : Six wr b2 u2 v2 1 0 0 0
  wn : Row 30 0 wr u2 l
  wi : Row 2 0 wr v2 l
  tb : ∃ P x, Tb F wr a 1 [x] P ∧ x.rc = ⟨l, l, 1, 0, 0, 0⟩
  sepN : ∀ g, u.ownBlock = some g → ¬ F g ∧ u2.ownBlock ≠ some g
  sepI : ∀ g, v.ownBlock = some g → ¬ F g ∧ v2.ownBlock ≠ some g
  below : Below w.heap.size w wr
  hb : w.heap.size ≤ b ∧ b ≠ b2 ∧ ¬ F b

section
variable {w wr X : World} {b b2 a : Nat} {F : Nat → Prop} {l : List Int} {u2 v2 u v : Value} {zs ys : List Int}
theorem boxT_ne : 32 ≠ 30 ∧ 32 ≠ 2 := by decide
/-- A number of the nodes is written. -/
theorem KI.putN (h : KI w b b2 a F l u2 v2 u v zs ys wr) {k : Nat} (hk : k < l.length) : ∃ g c z, u = .slice (some ⟨g, 0, none⟩) l.length c ∧ wr.cell? ⟨g, k, none⟩ = some (.int .i64 z) ∧ wr.frozen? ⟨g, k, none⟩ = false ∧ l.length ≤ c ∧
    ∀ z', KI w b b2 a F l u2 v2 u v (zs.set k z') ys (wr.setCell ⟨g, k, none⟩ (.int .i64 z')) := by
  have hkz : k < zs.length := by rw [h.lenz]; exact hk
  obtain ⟨g, c, q, hu, hgb, hgl, hc, -, hz, hput⟩ := h.nod.put hkz
  have hs := h.nod
  rw [hu] at hs
  obtain ⟨g', off, e, -, hcell⟩ := hs.sl.at_ hkz
  injection e with e
  injection e with e1 e2
  subst e1 e2
  have hub : u.ownBlock = some g := by rw [hu]; rfl
  have hsep := h.sepN g hub
  have hne : ∀ {t : TypeId} {x : Nat}, Ty wr x t → 30 ≠ t → x ≠ g := fun ht hn e => by subst e; exact hn ((own_ty h.nod hub).one ht)
  refine ⟨g, c, _, by rw [hu, h.lenz], by simpa using hcell, hz, by rw [← h.lenz]; exact hc, fun z' => ?_⟩
  obtain ⟨P, x, ht, hx⟩ := h.tb
  have hg := grown_set wr ⟨g, k, none⟩ (.int .i64 z')
  refine ⟨h.box.off (p := ⟨g, k, none⟩) (hne ⟨_, h.box⟩ boxT_ne.1.symm) _, (hput z').1, h.inf.grown hg (.inr fun e => hne (own_ty h.inf e) (by decide) rfl), by rw [List.length_set]; exact h.lenz, h.leny, h.wbox.off (p := ⟨g, k, none⟩) (hne ⟨_, h.wbox⟩ boxT_ne.1.symm) _, h.wn.grown hg (.inr hsep.2), h.wi.grown hg (.inr fun e => hne (own_ty h.wi e) (by decide) rfl), ⟨P, x, ht.only (G := fun y => y = g) (Only.set (fun y => y = g) wr (p := ⟨g, k, none⟩) rfl _) (fun y e e2 => by subst e2; exact hsep.1 e), hx⟩, h.sepN, h.sepI, h.below.setCell (p := ⟨g, k, none⟩) hgb _, h.hb⟩
theorem KI.putI (h : KI w b b2 a F l u2 v2 u v zs ys wr) {k : Nat} (hk : k < l.length) : ∃ g c z, v = .slice (some ⟨g, 0, none⟩) l.length c ∧ wr.cell? ⟨g, k, none⟩ = some (.int .i64 z) ∧ wr.frozen? ⟨g, k, none⟩ = false ∧ l.length ≤ c ∧
    ∀ z', KI w b b2 a F l u2 v2 u v zs (ys.set k z') (wr.setCell ⟨g, k, none⟩ (.int .i64 z')) := by
  have hkz : k < ys.length := by rw [h.leny]; exact hk
  obtain ⟨g, c, q, hu, hgb, hgl, hc, -, hz, hput⟩ := h.inf.put hkz
  have hs := h.inf
  rw [hu] at hs
  obtain ⟨g', off, e, -, hcell⟩ := hs.sl.at_ hkz
  injection e with e
  injection e with e1 e2
  subst e1 e2
  have hub : v.ownBlock = some g := by rw [hu]; rfl
  have hsep := h.sepI g hub
  have hne : ∀ {t : TypeId} {x : Nat}, Ty wr x t → 2 ≠ t → x ≠ g := fun ht hn e => by subst e; exact hn ((own_ty h.inf hub).one ht)
  refine ⟨g, c, _, by rw [hu, h.leny], by simpa using hcell, hz, by rw [← h.leny]; exact hc, fun z' => ?_⟩
  obtain ⟨P, x, ht, hx⟩ := h.tb
  have hg := grown_set wr ⟨g, k, none⟩ (.int .i64 z')
  refine ⟨h.box.off (p := ⟨g, k, none⟩) (hne ⟨_, h.box⟩ boxT_ne.2.symm) _, h.nod.grown hg (.inr fun e => hne (own_ty h.nod e) (by decide) rfl), (hput z').1, h.lenz, by rw [List.length_set]; exact h.leny, h.wbox.off (p := ⟨g, k, none⟩) (hne ⟨_, h.wbox⟩ boxT_ne.2.symm) _, h.wn.grown hg (.inr fun e => hne (own_ty h.wn e) (by decide) rfl), h.wi.grown hg (.inr hsep.2), ⟨P, x, ht.only (G := fun y => y = g) (Only.set (fun y => y = g) wr (p := ⟨g, k, none⟩) rfl _) (fun y e e2 => by subst e2; exact hsep.1 e), hx⟩, h.sepN, h.sepI, h.below.setCell (p := ⟨g, k, none⟩) hgb _, h.hb⟩
/-- The record is told anew. -/
theorem KI.told {u' v' : Value} (h : KI w b b2 a F l u2 v2 u v zs ys wr) (hb : Below wr.heap.size wr X) (hu : Row 30 wr.heap.size X u' l) (hv : Row 2 wr.heap.size X v' l) :
    KI w b b2 a F l u2 v2 u' v' l l (put6 X b u' v' 1 0 0 0) := by
  have hO := only_put6 X b u' v' 1 0 0 0
  have hws : w.heap.size ≤ wr.heap.size := h.below.size
  have hX := hb.size
  obtain ⟨P, x, ht, hx⟩ := h.tb
  have hk : ∀ g, g < X.heap.size → g ≠ b → (put6 X b u' v' 1 0 0 0).heap[g]? = X.heap[g]? := fun g h1 h2 => hO.block g h1 h2
  have hnb : ∀ {t : TypeId} {g : Nat}, Ty X g t → 32 ≠ t → g ≠ b := fun ht hn e => by subst e; exact hn (Ty.one ⟨_, h.box.below hb⟩ ht)
  refine ⟨(h.box.below hb).put, (hu.put6 h.box.lt).lower hws, (hv.put6 h.box.lt).lower hws, rfl, rfl, (hk b2 (h.wbox.below hb).lt (Ne.symm h.hb.2.1)).trans (h.wbox.below hb), ?_, ?_, ⟨P, x, (ht.below hb).only hO (fun y e e2 => by subst e2; exact h.hb.2.2 e), hx⟩, fun g e => ?_, fun g e => ?_, below_put6 (h.below.trans (hb.mono hws)) h.hb.1, h.hb⟩
  · exact own_at (h.wn.next hb) fun g e => hk g (World.ownsRow.lt (h.wn.next hb) g e).2 (hnb (own_ty (h.wn.next hb) e) boxT_ne.1)
  · exact own_at (h.wi.next hb) fun g e => hk g (World.ownsRow.lt (h.wi.next hb) g e).2 (hnb (own_ty (h.wi.next hb) e) boxT_ne.2)
  · have hge := (World.ownsRow.lt hu g e).1
    exact ⟨fun hF => by have := ht.its.lt g hF; omega, fun e2 => by have := (World.ownsRow.lt h.wn g e2).2; omega⟩
  · have hge := (World.ownsRow.lt hv g e).1
    exact ⟨fun hF => by have := ht.its.lt g hF; omega, fun e2 => by have := (World.ownsRow.lt h.wi g e2).2; omega⟩
theorem KI.later (h : KI w b b2 a F l u2 v2 u v zs ys wr) (hb : Below wr.heap.size wr X) : KI w b b2 a F l u2 v2 u v zs ys X := by
  obtain ⟨P, x, ht, hx⟩ := h.tb
  exact ⟨h.box.below hb, h.nod.next hb, h.inf.next hb, h.lenz, h.leny, h.wbox.below hb, h.wn.next hb, h.wi.next hb, ⟨P, x, ht.below hb, hx⟩, h.sepN, h.sepI, h.below.trans (hb.mono h.below.size), h.hb⟩
theorem KI.atN {A : Option Addr} {n c : Nat} (h : KI w b b2 a F l u2 v2 (.slice A n c) v zs ys wr) {k : Nat} (hk : k < n) : ∃ g z, A = some ⟨g, 0, none⟩ ∧ wr.cell? ⟨g, k, none⟩ = some (.int .i64 z) ∧ wr.frozen? ⟨g, k, none⟩ = false ∧
    ∀ z', KI w b b2 a F l u2 v2 (.slice (some ⟨g, 0, none⟩) n c) v (zs.set k z') ys (wr.setCell ⟨g, k, none⟩ (.int .i64 z')) := by
  have hn : n = l.length := h.nod.sl.len.trans h.lenz
  obtain ⟨g, c', z, e, h1, h2, h3, h4⟩ := h.putN (k := k) (by omega)
  injection e with e1 e2 e3
  subst e1
  exact ⟨g, z, rfl, h1, h2, h4⟩
theorem KI.atI {A : Option Addr} {n c : Nat} (h : KI w b b2 a F l u2 v2 u (.slice A n c) zs ys wr) {k : Nat} (hk : k < n) : ∃ g z, A = some ⟨g, 0, none⟩ ∧ wr.cell? ⟨g, k, none⟩ = some (.int .i64 z) ∧ wr.frozen? ⟨g, k, none⟩ = false ∧
    ∀ z', KI w b b2 a F l u2 v2 u (.slice (some ⟨g, 0, none⟩) n c) zs (ys.set k z') (wr.setCell ⟨g, k, none⟩ (.int .i64 z')) := by
  have hn : n = l.length := h.inf.sl.len.trans h.leny
  obtain ⟨g, c', z, e, h1, h2, h3, h4⟩ := h.putI (k := k) (by omega)
  injection e with e1 e2 e3
  subst e1
  exact ⟨g, z, rfl, h1, h2, h4⟩

/-- The copy that is wanted is put away. -/
theorem keeps_want {w1 w3 : World} (hI : LI w1 b u v l wr) (hw : Below w.heap.size w w1) (hwb : w.heap.size ≤ b ∧ w1.heap.size = b) (hu : Row 30 wr.heap.size w3 u2 l) (hv : Row 2 wr.heap.size w3 v2 l) (b3 : Below wr.heap.size wr w3) :
    ∃ (W4 W5 : World) (b2 a : Nat), w3.alloc (.cells #[.slice none 0 0, .slice none 0 0, .int .i64 0, .int .i64 0, .int .i64 0, .int .i64 0] 32) = W4 ∧ put6 W4 b2 u2 v2 1 0 0 0 = W5 ∧ w3.heap.size = b2 ∧ W5.heap.size = a ∧ Six W4 b2 (.slice none 0 0) (.slice none 0 0) 0 0 0 0 ∧
      Six W5 b u v 1 0 0 0 ∧ Six W5 b2 u2 v2 1 0 0 0 ∧ Row 30 w.heap.size W5 u l ∧ Row 2 w.heap.size W5 v l ∧ Row 30 0 W5 u2 l ∧ Row 2 0 W5 v2 l ∧ Below w.heap.size w W5 ∧ b ≠ b2 ∧ w.heap.size ≤ a ∧
      (∀ g, u.ownBlock = some g → g < a ∧ u2.ownBlock ≠ some g) ∧ (∀ g, v.ownBlock = some g → g < a ∧ v2.ownBlock ≠ some g) ∧ b < a := by
  have hbw := hI.box.lt
  have hs3 := b3.size
  have b4 := below_new w3 (.cells #[.slice none 0 0, .slice none 0 0, .int .i64 0, .int .i64 0, .int .i64 0, .int .i64 0] 32)
  have hn4 : Six (w3.alloc (.cells #[.slice none 0 0, .slice none 0 0, .int .i64 0, .int .i64 0, .int .i64 0, .int .i64 0] 32)) w3.heap.size (.slice none 0 0) (.slice none 0 0) 0 0 0 0 := Six.new w3 rfl _ _ _ _ _ _
  have hsz : (w3.alloc (.cells #[.slice none 0 0, .slice none 0 0, .int .i64 0, .int .i64 0, .int .i64 0, .int .i64 0] 32)).heap.size = w3.heap.size + 1 := by simp
  generalize w3.alloc (.cells #[.slice none 0 0, .slice none 0 0, .int .i64 0, .int .i64 0, .int .i64 0, .int .i64 0] 32) = W4 at *
  have hO := only_put6 W4 w3.heap.size u2 v2 1 0 0 0
  have p4 : Below wr.heap.size wr W4 := b3.trans (b4.mono hs3)
  have hk : ∀ g, g < W4.heap.size → g ≠ w3.heap.size → (put6 W4 w3.heap.size u2 v2 1 0 0 0).heap[g]? = W4.heap[g]? := fun g h1 h2 => hO.block g h1 h2
  have hu4 := hu.next b4
  have hv4 := hv.next b4
  have gu : ∀ g, u.ownBlock = some g → g < wr.heap.size := fun g e => (World.ownsRow.lt hI.nod g e).2
  have gv : ∀ g, v.ownBlock = some g → g < wr.heap.size := fun g e => (World.ownsRow.lt hI.inf g e).2
  have gu2 : ∀ g, u2.ownBlock = some g → wr.heap.size ≤ g ∧ g < w3.heap.size := fun g e => World.ownsRow.lt hu g e
  have gv2 : ∀ g, v2.ownBlock = some g → wr.heap.size ≤ g ∧ g < w3.heap.size := fun g e => World.ownsRow.lt hv g e
  have hs5 : (put6 W4 w3.heap.size u2 v2 1 0 0 0).heap.size = W4.heap.size := by simp
  have hw1s := hw.size
  refine ⟨W4, _, w3.heap.size, _, rfl, rfl, rfl, rfl, hn4, ?_, hn4.put, ?_, ?_, ?_, ?_, ?_, ?_, ?_, fun g e => ⟨?_, fun e2 => ?_⟩, fun g e => ⟨?_, fun e2 => ?_⟩, ?_⟩
  · exact (hk b (by omega) (by omega)).trans (hI.box.below p4)
  · exact own_lower (own_at (hI.nod.next p4) fun g e => hk g (by have := gu g e; omega) (by have := gu g e; omega)) (by omega)
  · exact own_lower (own_at (hI.inf.next p4) fun g e => hk g (by have := gv g e; omega) (by have := gv g e; omega)) (by omega)
  · exact own_lower (own_at hu4 fun g e => hk g (by have := gu2 g e; omega) (by have := gu2 g e; omega)) (Nat.zero_le _)
  · exact own_lower (own_at hv4 fun g e => hk g (by have := gv2 g e; omega) (by have := gv2 g e; omega)) (Nat.zero_le _)
  · exact below_put6 ((hw.trans (hI.bel.mono (by omega))).trans (p4.mono (by omega))) (by omega)
  · omega
  · omega
  · have := gu g e; omega
  · have h1 := gu g e; have h2 := gu2 g e2; omega
  · have := gv g e; omega
  · have h1 := gv g e; have h2 := gv2 g e2; omega
  · omega
/-- The record is made. -/
theorem keeps_made {W5 w7 : World} {P : Value} {x : It} (h1 : Six W5 b u v 1 0 0 0) (h2 : Six W5 b2 u2 v2 1 0 0 0) (h3 : Row 30 w.heap.size W5 u l) (h4 : Row 2 w.heap.size W5 v l) (h5 : Row 30 0 W5 u2 l) (h6 : Row 2 0 W5 v2 l) (h7 : Below w.heap.size w W5) (h8 : b ≠ b2)
    (h9 : w.heap.size ≤ a) (h10 : ∀ g, u.ownBlock = some g → g < a ∧ u2.ownBlock ≠ some g) (h11 : ∀ g, v.ownBlock = some g → g < a ∧ v2.ownBlock ≠ some g) (h12 : b < a) (h13 : W5.heap.size = a) (hwb : w.heap.size ≤ b) (hb : Below a W5 w7) (ht : Tb F w7 a 1 [x] P) (hx : x.rc = ⟨l, l, 1, 0, 0, 0⟩) (hF : ∀ g, F g → a ≤ g) :
    KI w b b2 a F l u2 v2 u v l l w7 := by
  subst h13
  exact ⟨h1.below hb, h3.next hb, h4.next hb, rfl, rfl, h2.below hb, h5.next hb, h6.next hb, ⟨P, x, ht, hx⟩, fun g e => ⟨fun e2 => by have := hF g e2; have := (h10 g e).1; omega, (h10 g e).2⟩, fun g e => ⟨fun e2 => by have := hF g e2; have := (h11 g e).1; omega, (h11 g e).2⟩, h7.trans (hb.mono h9), hwb, h8, fun e => by have := hF b e; omega⟩
end
end Go.Proofs.Ytokheagoddmmiaa
