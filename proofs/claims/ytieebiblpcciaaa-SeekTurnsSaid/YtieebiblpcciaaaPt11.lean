/-
  The way to a key, as a tree of touches; what stands fast of nodes and their ways.
-/
import Derived.Test.YtieebiblpcciaaaSv11
import Derived.Test.YtieebiblpcciaaaTj10
namespace Go.Proofs.Ytieebiblpcciaaa
open Go.ChangeShapes Go.WideShapes Go.ChangeAt Go.RowKit
set_option linter.unusedVariables false
set_option linter.unusedSimpArgs false
set_option maxRecDepth 20000

/-- What isn't there. -/
def tBad {α : Type} (v : α) : Tr α := .lk (-5) fun _ => .ret v
/-- From a node on: so many nodes at most; rk: how many are below it at most. -/
def tPath (nds : List (Int × Nd)) (rk : Int → Nat) (key : Int) : Nat → Int → List Sp → Tr (List Sp)
  | 0, _, _ => tBad []
  | f + 1, r, acc => match nds.lookup r with
    | none => tBad []
    | some nd => if rk r ≤ f then (if nd.inn = true then (tDo (gWay r (wyOf nd key))).bind fun z => tPath nds rk key f z (acc ++ [⟨r, nd, wyOf nd key⟩]) else .ret (acc ++ [⟨r, nd, wyOf nd key⟩])) else tBad []
/-- Nodes as they may be. -/
def NdsOk (nds : List (Int × Nd)) : Prop := ∀ x ∈ nds, x.2.small ∧ Asc1 x.2.ks
theorem lookup_mem {nds : List (Int × Nd)} {r : Int} {nd : Nd} (h : nds.lookup r = some nd) : (r, nd) ∈ nds := by
  induction nds with
  | nil => cases h
  | cons x l ih =>
    obtain ⟨a, b⟩ := x
    simp only [List.lookup] at h
    split at h
    · rename_i e
      have e : r = a := by simpa using e
      injection h with h
      subst e h
      exact List.mem_cons_self ..
    · exact List.mem_cons_of_mem _ (ih h)
/-- What stands fast: the nodes, and that their ways lead to such. -/
structure SkI (nds : List (Int × Nd)) (rk : Int → Nat) (M mo : Nat) (s : Sig) : Prop where
  stt : Stt nds M s
  most : s.ar.most = mo
  tre : ∀ x ∈ nds, x.2.inn = true → ∃ i p, s.ar.hit x.1 = some (i, p) ∧ p.ws.length = x.2.zs.length ∧ 1 ≤ p.ws.length ∧ ∀ z ∈ p.ws, (nds.lookup z).isSome = true ∧ rk z < rk x.1
section
variable {α β : Type} {nds : List (Int × Nd)} {rk : Int → Nat} {M mo L f : Nat} {s s' : Sig} {r k key z : Int} {nd : Nd} {acc : List Sp}
theorem has5 (s : Sig) : ¬ has s (-5) := fun h => h (by unfold rcAt; rw [if_pos (by omega)])
theorem gWay_ar (r k : Int) (s : Sig) : (gWay r k s).2 = s ∨ (gWay r k s).2 = { s with ar := s.ar.fault } := by
  unfold gWay gAr As.with
  cases s.ar.hit r with
  | none => exact .inr rfl
  | some x => obtain ⟨i, p⟩ := x; exact .inl rfl
theorem SkI.way (h : SkI nds rk M mo s) (r k : Int) : SkI nds rk M mo (gWay r k s).2 := by
  refine ⟨(ks_way (K := fun _ => (.ret () : Tr Unit)) (fun _ => trivial)).1 s h.stt, ?_, ?_⟩
  · rcases gWay_ar r k s with e | e <;> rw [e] <;> exact h.most
  · rcases gWay_ar r k s with e | e <;> rw [e] <;> exact h.tre
/-- A node's way that goes on leads to a node of the table. -/
theorem SkI.next (h : SkI nds rk M mo s) (hl : nds.lookup r = some nd) (hi : nd.inn = true) (key : Int) : (nds.lookup (gWay r (wyOf nd key) s).1).isSome = true ∧ rk (gWay r (wyOf nd key) s).1 < rk r ∧ (gWay r (wyOf nd key) s).2 = s := by
  obtain ⟨i, p, h1, h2, h3, h4⟩ := h.tre _ (lookup_mem hl) hi
  have hlt : heldW (wayL nd.ks key) nd.zs.length < p.ws.length := by unfold heldW; simp only at h2; omega
  have e : (gWay r (wyOf nd key) s).1 = p.ws[heldW (wayL nd.ks key) nd.zs.length] := by
    unfold gWay gAr As.with
    rw [h1]
    show wayAt p (wyOf nd key) = _
    unfold wyOf wayAt hasB
    rw [if_pos hi, if_pos (by simp; omega), Int.toNat_natCast]
    simp [List.getD, hlt]
  have h5 := h4 _ (List.getElem_mem hlt)
  refine ⟨by rw [e]; exact h5.1, by rw [e]; exact h5.2, ?_⟩
  unfold gWay gAr As.with
  rw [h1]
theorem kp_path (f : Nat) (r : Int) (acc : List Sp) : (tPath nds rk key f r acc).keeps (SkI nds rk M mo) := by
  induction f generalizing r acc with
  | zero => exact fun _ => trivial
  | succ f ih =>
    unfold tPath
    split
    · exact fun _ => trivial
    · split
      · split
        · exact ⟨fun s h => h.way _ _, fun z => ih _ _⟩
        · exact trivial
      · exact fun _ => trivial
theorem rets_path (f : Nat) (r : Int) (acc : List Sp) : rets (fun l => l.length ≤ acc.length + f) (tPath nds rk key f r acc) := by
  induction f generalizing r acc with
  | zero => exact fun _ => Nat.zero_le _
  | succ f ih =>
    unfold tPath
    split
    · exact fun _ => Nat.zero_le _
    · rename_i nd _
      split
      · split
        · intro z
          have := ih z (acc ++ [⟨r, nd, wyOf nd key⟩])
          rw [List.length_append, List.length_singleton, show acc.length + 1 + f = acc.length + (f + 1) from by omega] at this
          exact this
        · show (acc ++ [_]).length ≤ _
          rw [List.length_append, List.length_singleton]; omega
      · exact fun _ => Nat.zero_le _
theorem keeps_kpP {P : Sig → Prop} {t : Tr α} (h : t.keeps P) : kpP P t := fun hs hr => run_keeps h hs hr
/-- What the next touch is told, behind a path that is there. -/
theorem do_path {g : Sig → Int × Sig} {K : Int → Tr β} {c c' : Cur} {s s' : Sig} {z : Int} (h : run (tDo g) c s = .ret z c' s') (hp : c.live = true → path ((tDo g).bind K) (c.zs.drop c.k) s) :
    (s' = s ∧ c'.live = true ∧ path (K z) (c'.zs.drop c'.k) s') ∨ (c'.live = false ∧ z = (g s).1 ∧ s' = (g s).2) := by
  rcases run_do h with ⟨h1, h2, rfl, rfl, rfl⟩ | ⟨h1, h2, rfl, rfl, rfl⟩
  · refine .inl ⟨rfl, rfl, ?_⟩
    have := hp h1
    rw [List.drop_eq_getElem_cons h2] at this
    rw [show c.zs.getD c.k 0 = c.zs[c.k] from by simp [List.getD, h2]]
    exact this
  · exact .inr ⟨rfl, rfl, rfl⟩
theorem bad_path {v : α} {K : α → Tr β} {zs : List Int} (h : path ((tBad v).bind K) zs s) : False := by
  cases zs with
  | nil => exact absurd h.1 (has5 s)
  | cons z zs => exact absurd h.1 (has5 s)
/-- A path that is there asks for a node of the table. -/
theorem path_some {K : List Sp → Tr β} {zs : List Int} (h : path ((tPath nds rk key f r acc).bind K) zs s) : ∃ g, f = g + 1 ∧ (nds.lookup r).isSome = true ∧ rk r ≤ g := by
  cases f with
  | zero => exact (bad_path h).elim
  | succ f =>
    unfold tPath at h
    split at h
    · exact (bad_path h).elim
    · rename_i nd hl
      split at h
      · rename_i hr; exact ⟨f, rfl, by rw [hl]; rfl, hr⟩
      · exact (bad_path h).elim
theorem tPath_at {nd : Nd} (h : nds.lookup r = some nd) (hr : rk r ≤ f) : tPath nds rk key (f + 1) r acc = if nd.inn = true then (tDo (gWay r (wyOf nd key))).bind fun z => tPath nds rk key f z (acc ++ [⟨r, nd, wyOf nd key⟩]) else .ret (acc ++ [⟨r, nd, wyOf nd key⟩]) := by
  simp only [tPath, h]
  rw [if_pos hr]
end
/-- What Path answers. -/
def PaU (l : List Sp) (Y : Nat → Prop) (w : World) (v : Value) : Prop := SpL l Y w v
/-- Where Path is. -/
structure PLI (nds : List (Int × Nd)) (rk : Int → Nat) (M mo : Nat) (d : Wd) (R : Nat → Prop) (w : World) (a me : Nat) (wk : Value) (p : Nat) (o : Out (List Sp)) (l : List Sp) (T : Value) (Y : Nat → Prop) (t : Tr (List Sp)) (wr : World) (c : Cur) (s : Sig) : Prop where
  bt : BT (SkI nds rk M mo) d R (fun b => (R b ∨ b = p) ∨ Y b) w a me wk p o t wr c s
  sl : SpL l Y wr T
  yn : ∀ b, Y b → p < b
  hp : w.heap.size = p
section
variable {nds : List (Int × Nd)} {rk : Int → Nat} {M mo : Nat} {d : Wd} {R R' X X' : Nat → Prop} {w w' w0 wr w1 : World} {a st ph k me p q : Nat} {wk T : Value} {zs ws : List Int} {c : Cur} {s : Sig} {n r : Int} {nd : Nd} {t : Tr (List Sp)} {o : Out (List Sp)} {e : Ending} {l : List Sp} {Y : Nat → Prop}
theorem PLI.below (h : PLI nds rk M mo d R w a me wk p o l T Y t wr c s) (hb : Below wr.heap.size wr w') : PLI nds rk M mo d R w a me wk p o l T Y t w' c s :=
  ⟨h.bt.below hb, h.sl.keep (fun b e => hb.block b (h.bt.lv.lt b (.inr e))) fun b e => e, h.yn, h.hp⟩
/-- A step that was looked at, with its memory. -/
theorem PLI.push {x : Sp} {cs : List Value} {g q : Nat} (h : PLI nds rk M mo d R w a me wk p o l T Y t wr c s) (hR : ∀ b, R b → b < w.heap.size) {Y2 : Nat → Prop} (hx : SpR x cs Y2 w') (hY2 : ∀ b, Y2 b → wr.heap.size ≤ b ∧ b < w'.heap.size) (hb : Below wr.heap.size wr w') (hg : w'.heap[g]? = some (.cells cs.toArray stT (0, 0))) (hn : l.length ≤ 100000) (hq : wr.heap.size ≤ q ∧ q < w'.heap.size) :
    ∃ A' c' Z Y', (Builtin.append_ #[159, 159] 159 #[T, .slice (some ⟨g, 0, none⟩) 1 1]).run Try.prog w' = .ok (.slice A' (l.length + 1) c') Z ∧ PLI nds rk M mo d R w a me wk p o (l ++ [x]) (.slice A' (l.length + 1) c') Y' t Z c s ∧ Z.heap[q]? = w'.heap[q]? := by
  have hL : BT (SkI nds rk M mo) d R (fun b => (R b ∨ b = p) ∨ (Y b ∨ Y2 b)) w a me wk p o t w' c s := h.bt.more hb (fun b e => by
    rcases e with e | e | e
    · exact .inl (.inl e)
    · exact .inl (.inr e)
    · exact .inr (hY2 b e)) fun b e => .inl e
  have hsl : SpL l (fun b => Y b ∨ Y2 b) w' T := h.sl.keep (fun b e => hb.block b (h.bt.lv.lt b (.inr e))) fun b e => .inl e
  obtain ⟨A', c', Z, q1, q2, q3, q4⟩ := hsl.push (hx.keep (fun b e _ => rfl) fun b e => .inr e) hg hn
  have hpl : p < wr.heap.size := h.bt.lv.lt p (h.bt.sub p (.inr rfl))
  have hown : ∀ b, T.ownBlock = some b → Y b := h.sl.own
  have hqY : ∀ b, Y b → b < wr.heap.size := fun b e => h.bt.lv.lt b (.inr e)
  have hbs := hb.size
  obtain ⟨⟨cs', h1, h2, h3⟩, h4⟩ := q2
  refine ⟨A', c', Z, fun b => (Y b ∨ Y2 b) ∨ (w'.heap.size ≤ b ∧ b < Z.heap.size), q1, ⟨?_, ⟨⟨cs', h1, fun i y d e1 e2 => ?_, h3⟩, fun b e => ?_⟩, fun b e => ?_, h.hp⟩, q3.block q hq.2 fun e => by have := hqY q (hown q e.symm); omega⟩
  · refine hL.kept q3 (fun b e => ?_) (fun b e => ?_) fun b e => .inl e
    · have hy := hown b e
      have := h.yn b hy
      have := h.hp
      exact ⟨.inr (.inl hy), fun f => by have := hR b f; omega, by omega⟩
    · rcases e with e | e | e
      · exact .inl (.inl e)
      · exact .inl (.inr e)
      · exact .inr e
  · obtain ⟨pv, kv, zv, k0, k1⟩ := h2 i y d e1 e2
    refine ⟨pv, kv, zv, k0, ⟨k1.p, k1.k, k1.z, fun b e => (k1.own b e).imp id fun e2 => ⟨e2, ?_⟩⟩⟩
    rcases e with e | e | e
    · exact (World.ownsRow.lt k1.p b e).2
    · exact (World.ownsRow.lt k1.k b e).2
    · exact (World.ownsRow.lt k1.z b e).2
  · exact (h4 b e).imp id fun e2 => ⟨e2, (World.ownsRow.lt h3 b e).2⟩
  · rcases e with (e | e) | e
    · exact h.yn b e
    · have := hY2 b e; omega
    · omega
theorem PLI.fin (h : PLI nds rk M mo d R w a me wk p o l T Y (.ret l) wr c s) (hp : ∀ b, R b → b < w.heap.size) : PostM d R w a wk PaU o (.returned T) wr :=
  h.bt.postM (Y := Y) h.sl (fun b e => .inr e) fun b e => by have := h.yn b e; have := h.hp; omega
end
end Go.Proofs.Ytieebiblpcciaaa
