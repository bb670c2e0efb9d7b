/-
  The way to a key; a thread that walks.
-/
import Derived.Test.YtcegianjpifnbaaGreatSv11
import Derived.Test.YtcegianjpifnbaaGreatTj10
import Derived.Deep.Cut
namespace Go.Proofs.YtcegianjpifnbaaGreat
open Go.ChangeShapes Go.WideShapes Go.ChangeAt Go.RowKit
set_option linter.unusedVariables false
set_option linter.unusedSimpArgs false
set_option maxRecDepth 20000

/-- What isn't there. -/
def tBad {α : Type} (v : α) : Tr α := .lk (-5) fun _ => .ret v
/-- From a node on: so many nodes at most; rk: how many are below it at most. -/
def tPath (nds : List (Int × Nd)) (rk : Int → Nat) (key : Int) : Nat → Int → List Sp → Tr (List Sp)
  | 0, _, _ => tBad []
  | f + 1, r, acc => match nds.lookup r with
    | none => tBad []
    | some nd => if rk r ≤ f then (if nd.inn = true then (tDo (gWay r (wyOf nd key))).bind fun z => tPath nds rk key f z (acc ++ [⟨r, nd, wyOf nd key⟩]) else .ret (acc ++ [⟨r, nd, wyOf nd key⟩])) else tBad []
/-- Nodes as they may be. -/
def NdsOk (nds : List (Int × Nd)) : Prop := ∀ x ∈ nds, x.2.small ∧ Asc1 x.2.ks
theorem lookup_mem {nds : List (Int × Nd)} {r : Int} {nd : Nd} (h : nds.lookup r = some nd) : (r, nd) ∈ nds := by
  induction nds with
  | nil => cases h
  | cons x l ih =>
    obtain ⟨a, b⟩ := x
    simp only [List.lookup] at h
    split at h
    · rename_i e
      have e : r = a := by simpa using e
      injection h with h
      subst e h
      exact List.mem_cons_self ..
    · exact List.mem_cons_of_mem _ (ih h)
/-- What stands fast: the nodes, and that their ways lead to such. -/
structure SkI (nds : List (Int × Nd)) (rk : Int → Nat) (M mo : Nat) (s : Sig) : Prop where
  stt : Stt nds M s
  most : s.ar.most = mo
  tre : ∀ x ∈ nds, x.2.inn = true → ∃ i p, s.ar.hit x.1 = some (i, p) ∧ p.ws.length = x.2.zs.length ∧ 1 ≤ p.ws.length ∧ ∀ z ∈ p.ws, (nds.lookup z).isSome = true ∧ rk z < rk x.1
section
variable {α β : Type} {nds : List (Int × Nd)} {rk : Int → Nat} {M mo L f : Nat} {s s' : Sig} {r k key z : Int} {nd : Nd} {acc : List Sp}
theorem has5 (s : Sig) : ¬ has s (-5) := fun h => h (by unfold rcAt; rw [if_pos (by omega)])
theorem gWay_ar (r k : Int) (s : Sig) : (gWay r k s).2 = s ∨ (gWay r k s).2 = { s with ar := s.ar.fault } := by
  unfold gWay gAr As.with
  cases s.ar.hit r with
  | none => exact .inr rfl
  | some x => obtain ⟨i, p⟩ := x; exact .inl rfl
theorem SkI.way (h : SkI nds rk M mo s) (r k : Int) : SkI nds rk M mo (gWay r k s).2 := by
  refine ⟨(ks_way (K := fun _ => (.ret () : Tr Unit)) (fun _ => trivial)).1 s h.stt, ?_, ?_⟩
  · rcases gWay_ar r k s with e | e <;> rw [e] <;> exact h.most
  · rcases gWay_ar r k s with e | e <;> rw [e] <;> exact h.tre
/-- A node's way that goes on leads to a node of the table. -/
theorem SkI.next (h : SkI nds rk M mo s) (hl : nds.lookup r = some nd) (hi : nd.inn = true) (key : Int) : (nds.lookup (gWay r (wyOf nd key) s).1).isSome = true ∧ rk (gWay r (wyOf nd key) s).1 < rk r ∧ (gWay r (wyOf nd key) s).2 = s := by
  obtain ⟨i, p, h1, h2, h3, h4⟩ := h.tre _ (lookup_mem hl) hi
  have hlt : heldW (wayL nd.ks key) nd.zs.length < p.ws.length := by unfold heldW; simp only at h2; omega
  have e : (gWay r (wyOf nd key) s).1 = p.ws[heldW (wayL nd.ks key) nd.zs.length] := by
    unfold gWay gAr As.with
    rw [h1]
    show wayAt p (wyOf nd key) = _
    unfold wyOf wayAt hasB
    rw [if_pos hi, if_pos (by simp; omega), Int.toNat_natCast]
    simp [List.getD, hlt]
  have h5 := h4 _ (List.getElem_mem hlt)
  refine ⟨by rw [e]; exact h5.1, by rw [e]; exact h5.2, ?_⟩
  unfold gWay gAr As.with
  rw [h1]
theorem kp_path (f : Nat) (r : Int) (acc : List Sp) : (tPath nds rk key f r acc).keeps (SkI nds rk M mo) := by
  induction f generalizing r acc with
  | zero => exact fun _ => trivial
  | succ f ih =>
    unfold tPath
    split
    · exact fun _ => trivial
    · split
      · split
        · exact ⟨fun s h => h.way _ _, fun z => ih _ _⟩
        · exact trivial
      · exact fun _ => trivial
theorem rets_path (f : Nat) (r : Int) (acc : List Sp) : rets (fun l => l.length ≤ acc.length + f) (tPath nds rk key f r acc) := by
  induction f generalizing r acc with
  | zero => exact fun _ => Nat.zero_le _
  | succ f ih =>
    unfold tPath
    split
    · exact fun _ => Nat.zero_le _
    · rename_i nd _
      split
      · split
        · intro z
          have := ih z (acc ++ [⟨r, nd, wyOf nd key⟩])
          rw [List.length_append, List.length_singleton, show acc.length + 1 + f = acc.length + (f + 1) from by omega] at this
          exact this
        · show (acc ++ [_]).length ≤ _
          rw [List.length_append, List.length_singleton]; omega
      · exact fun _ => Nat.zero_le _
theorem keeps_kpP {P : Sig → Prop} {t : Tr α} (h : t.keeps P) : kpP P t := fun hs hr => run_keeps h hs hr
/-- What the next touch is told, behind a path that is there. -/
theorem do_path {g : Sig → Int × Sig} {K : Int → Tr β} {c c' : Cur} {s s' : Sig} {z : Int} (h : run (tDo g) c s = .ret z c' s') (hp : c.live = true → path ((tDo g).bind K) (c.zs.drop c.k) s) :
    (s' = s ∧ c'.live = true ∧ path (K z) (c'.zs.drop c'.k) s') ∨ (c'.live = false ∧ z = (g s).1 ∧ s' = (g s).2) := by
  rcases run_do h with ⟨h1, h2, rfl, rfl, rfl⟩ | ⟨h1, h2, rfl, rfl, rfl⟩
  · refine .inl ⟨rfl, rfl, ?_⟩
    have := hp h1
    rw [List.drop_eq_getElem_cons h2] at this
    rw [show c.zs.getD c.k 0 = c.zs[c.k] from by simp [List.getD, h2]]
    exact this
  · exact .inr ⟨rfl, rfl, rfl⟩
theorem bad_path {v : α} {K : α → Tr β} {zs : List Int} (h : path ((tBad v).bind K) zs s) : False := by
  cases zs with
  | nil => exact absurd h.1 (has5 s)
  | cons z zs => exact absurd h.1 (has5 s)
/-- A path that is there asks for a node of the table. -/
theorem path_some {K : List Sp → Tr β} {zs : List Int} (h : path ((tPath nds rk key f r acc).bind K) zs s) : ∃ g, f = g + 1 ∧ (nds.lookup r).isSome = true ∧ rk r ≤ g := by
  cases f with
  | zero => exact (bad_path h).elim
  | succ f =>
    unfold tPath at h
    split at h
    · exact (bad_path h).elim
    · rename_i nd hl
      split at h
      · rename_i hr; exact ⟨f, rfl, by rw [hl]; rfl, hr⟩
      · exact (bad_path h).elim
theorem tPath_at {nd : Nd} (h : nds.lookup r = some nd) (hr : rk r ≤ f) : tPath nds rk key (f + 1) r acc = if nd.inn = true then (tDo (gWay r (wyOf nd key))).bind fun z => tPath nds rk key f z (acc ++ [⟨r, nd, wyOf nd key⟩]) else .ret (acc ++ [⟨r, nd, wyOf nd key⟩]) := by
  simp only [tPath, h]
  rw [if_pos hr]
end
/-- What Path answers. -/
def PaU (l : List Sp) (Y : Nat → Prop) (w : World) (v : Value) : Prop := SpL l Y w v
/-- Where Path is. -/
structure PLI (nds : List (Int × Nd)) (rk : Int → Nat) (M mo : Nat) (d : Wd) (R : Nat → Prop) (w : World) (a me : Nat) (wk : Value) (p : Nat) (o : Out (List Sp)) (l : List Sp) (T : Value) (Y : Nat → Prop) (t : Tr (List Sp)) (wr : World) (c : Cur) (s : Sig) : Prop where
  bt : BT (SkI nds rk M mo) d R (fun b => (R b ∨ b = p) ∨ Y b) w a me wk p o t wr c s
  sl : SpL l Y wr T
  yn : ∀ b, Y b → p < b
  hp : w.heap.size = p
section
variable {nds : List (Int × Nd)} {rk : Int → Nat} {M mo : Nat} {d : Wd} {R R' X X' : Nat → Prop} {w w' w0 wr w1 : World} {a st ph k me p q : Nat} {wk T : Value} {zs ws : List Int} {c : Cur} {s : Sig} {n r : Int} {nd : Nd} {t : Tr (List Sp)} {o : Out (List Sp)} {e : Ending} {l : List Sp} {Y : Nat → Prop}
theorem PLI.below (h : PLI nds rk M mo d R w a me wk p o l T Y t wr c s) (hb : Below wr.heap.size wr w') : PLI nds rk M mo d R w a me wk p o l T Y t w' c s :=
  ⟨h.bt.below hb, h.sl.keep (fun b e => hb.block b (h.bt.lv.lt b (.inr e))) fun b e => e, h.yn, h.hp⟩
/-- A step that was looked at, with its memory. -/
theorem PLI.push {x : Sp} {cs : List Value} {g q : Nat} (h : PLI nds rk M mo d R w a me wk p o l T Y t wr c s) (hR : ∀ b, R b → b < w.heap.size) {Y2 : Nat → Prop} (hx : SpR x cs Y2 w') (hY2 : ∀ b, Y2 b → wr.heap.size ≤ b ∧ b < w'.heap.size) (hb : Below wr.heap.size wr w') (hg : w'.heap[g]? = some (.cells cs.toArray stT (0, 0))) (hn : l.length ≤ 100000) (hq : wr.heap.size ≤ q ∧ q < w'.heap.size) :
    ∃ A' c' Z Y', (Builtin.append_ #[94, 94] 94 #[T, .slice (some ⟨g, 0, none⟩) 1 1]).run Tryz.prog w' = .ok (.slice A' (l.length + 1) c') Z ∧ PLI nds rk M mo d R w a me wk p o (l ++ [x]) (.slice A' (l.length + 1) c') Y' t Z c s ∧ Z.heap[q]? = w'.heap[q]? := by
  have hL : BT (SkI nds rk M mo) d R (fun b => (R b ∨ b = p) ∨ (Y b ∨ Y2 b)) w a me wk p o t w' c s := h.bt.more hb (fun b e => by
    rcases e with e | e | e
    · exact .inl (.inl e)
    · exact .inl (.inr e)
    · exact .inr (hY2 b e)) fun b e => .inl e
  have hsl : SpL l (fun b => Y b ∨ Y2 b) w' T := h.sl.keep (fun b e => hb.block b (h.bt.lv.lt b (.inr e))) fun b e => .inl e
  obtain ⟨A', c', Z, q1, q2, q3, q4⟩ := hsl.push (hx.keep (fun b e _ => rfl) fun b e => .inr e) hg hn
  have hpl : p < wr.heap.size := h.bt.lv.lt p (h.bt.sub p (.inr rfl))
  have hown : ∀ b, T.ownBlock = some b → Y b := h.sl.own
  have hqY : ∀ b, Y b → b < wr.heap.size := fun b e => h.bt.lv.lt b (.inr e)
  have hbs := hb.size
  obtain ⟨⟨cs', h1, h2, h3⟩, h4⟩ := q2
  refine ⟨A', c', Z, fun b => (Y b ∨ Y2 b) ∨ (w'.heap.size ≤ b ∧ b < Z.heap.size), q1, ⟨?_, ⟨⟨cs', h1, fun i y d e1 e2 => ?_, h3⟩, fun b e => ?_⟩, fun b e => ?_, h.hp⟩, q3.block q hq.2 fun e => by have := hqY q (hown q e.symm); omega⟩
  · refine hL.kept q3 (fun b e => ?_) (fun b e => ?_) fun b e => .inl e
    · have hy := hown b e
      have := h.yn b hy
      have := h.hp
      exact ⟨.inr (.inl hy), fun f => by have := hR b f; omega, by omega⟩
    · rcases e with e | e | e
      · exact .inl (.inl e)
      · exact .inl (.inr e)
      · exact .inr e
  · obtain ⟨pv, kv, zv, k0, k1⟩ := h2 i y d e1 e2
    refine ⟨pv, kv, zv, k0, ⟨k1.p, k1.k, k1.z, fun b e => (k1.own b e).imp id fun e2 => ⟨e2, ?_⟩⟩⟩
    rcases e with e | e | e
    · exact (World.ownsRow.lt k1.p b e).2
    · exact (World.ownsRow.lt k1.k b e).2
    · exact (World.ownsRow.lt k1.z b e).2
  · exact (h4 b e).imp id fun e2 => ⟨e2, (World.ownsRow.lt h3 b e).2⟩
  · rcases e with (e | e) | e
    · exact h.yn b e
    · have := hY2 b e; omega
    · omega
theorem PLI.fin (h : PLI nds rk M mo d R w a me wk p o l T Y (.ret l) wr c s) (hp : ∀ b, R b → b < w.heap.size) : PostM d R w a wk PaU o (.returned T) wr :=
  h.bt.postM (Y := Y) h.sl (fun b e => .inr e) fun b e => by have := h.yn b e; have := h.hp; omega
end
end Go.Proofs.YtcegianjpifnbaaGreat
namespace Go.Proofs.YtcegianjpifnbaaGreat
open Go.ChangeShapes Go.WideShapes Go.ChangeAt Go.RowKit
set_option linter.unusedVariables false
set_option linter.unusedSimpArgs false
set_option maxRecDepth 20000

def PLE (nds : List (Int × Nd)) (rk : Int → Nat) (M mo : Nat) (d : Wd) (R : Nat → Prop) (w : World) (a me : Nat) (wk : Value) (p : Nat) (o : Out (List Sp)) (l : List Sp) (T : Value) (t : Tr (List Sp)) (wr : World) (c : Cur) (s : Sig) : Prop := ∃ Y, PLI nds rk M mo d R w a me wk p o l T Y t wr c s
section
variable {β : Type} {nds : List (Int × Nd)} {rk : Int → Nat} {M mo D : Nat} {d : Wd} {R : Nat → Prop} {w : World} {a me : Nat} {wk : Value} {c : Cur} {s : Sig} {key : Int}
set_option maxHeartbeats 8000000 in
theorem path_touch {K : List Sp → Tr β} (hN : NdsOk nds) (hmo : mo ≤ 70000) (hD : D ≤ mo) (hen : (nds.lookup d.en).isSome = true ∧ rk d.en ≤ D) (h : Lv d R w a wk c s) (hP : SkI nds rk M mo s) (hpt : c.live = true → path ((tPath nds rk key (D + 1) d.en []).bind K) (c.zs.drop c.k) s) :
    Calls Tryz.prog 44 #[tkV a d.W me, .int .i64 key] w (PostM d R w a wk PaU (run (tPath nds rk key (D + 1) d.en []) c s)) := by
  have HR := Lib.hid h.lt
  obtain ⟨W, p, hW, hp, bb, tk, hsz⟩ := one_box w a d.W me
  obtain ⟨o, ho⟩ : ∃ o, run (tPath nds rk key (D + 1) d.en []) c s = o := ⟨_, rfl⟩
  rw [ho]
  have HL0 : Hid (PLE nds rk M mo d R w a me wk p o [] (.slice none 0 0) (tPath nds rk key (D + 1) d.en []) W c s) := by
    refine ⟨fun _ => False, ?_, SpL.nil _ _, fun b e => e.elim, hp⟩
    rw [← ho]
    exact BT.begin_ h bb (fun b e => by
      rcases e with (e | e) | e
      · exact .inl e
      · exact .inr (by omega)
      · exact e.elim) (fun b e => .inl e) tk hP
  have HMo : Hid (Calls Tryz.prog 58 #[ptr d.A] W fun e w' => e = .returned (.int .i64 (mo : Int)) ∧ W = w') := by
    obtain ⟨Y, h0⟩ := HL0.out
    obtain ⟨F, FW, T, h1, h2, -, -⟩ := h0.bt.lv.lv
    have := nxW_most h2
    rw [hP.most] at this
    exact this
  have g0 : W.cell? ⟨d.W, 0, none⟩ = some (ptr d.A) ∧ W.cell? ⟨d.W, 5, none⟩ = some (.int .i64 d.en) := by
    obtain ⟨Y, h0⟩ := HL0.out
    obtain ⟨F, FW, T, h1, h2, -, -⟩ := h0.bt.lv.lv
    exact ⟨h2.cells.1, h2.cells.2.2.2.2.2⟩
  obtain ⟨g0, g5⟩ := g0
  have HPT : Hid (c.live = true → path ((tPath nds rk key (D + 1) d.en []).bind K) (c.zs.drop c.k) s) := hpt
  have HEN := Lib.hid hen
  have HNO := Lib.hid hN
  have hwm : IntKind.i64.wrap ((mo : Int) + 1) = ((mo + 1 : Nat) : Int) := by rw [IntWalk.i64_in _ (by omega)]; omega
  obtain ⟨t0, t1, t2⟩ := tk
  clear h bb hsz hP ho hpt hen hN
  go_enter Tryz.func44, Tryz.ntmps44
  go_wp2_with fail
  (try rw [hW]); (try rw [hp])
  refine HMo.out.mono ?_
  rintro e w1 ⟨rfl, rfl⟩
  clear HMo
  go_wp2_with fail
  clear t0 t1 t2 g0 g5 hW hp
  go_loopg [28, 5, 6] (mo + 1) (fun gk iv tv rv wr => ∃ (j : Nat) (A1 : Option Addr) (c1 : Nat) (r : Int) (l : List Sp) (c' : Cur) (s' : Sig), j + gk = mo + 1 ∧ iv = .int .i64 (j : Int) ∧ tv = .slice A1 j c1 ∧ rv = .int .i64 r ∧ l.length = j ∧ Hid (PLE nds rk M mo d R w a me wk p o l (.slice A1 j c1) (tPath nds rk key (D + 1 - j) r l) wr c' s') ∧ Hid (c'.live = true → path ((tPath nds rk key (D + 1 - j) r l).bind K) (c'.zs.drop c'.k) s') ∧ Hid (∃ fu, D + 1 - j = fu + 1 ∧ (nds.lookup r).isSome = true ∧ rk r ≤ fu))
  case atStart => exact ⟨0, none, 0, d.en, [], c, s, by omega, rfl, rfl, rfl, rfl, HL0.out, HPT.out, D, rfl, HEN.out⟩
  case round =>
    clear HL0 HPT HEN
    obtain ⟨j, A1, c1, r, l, c2, s2, hj, rfl, rfl, rfl, hll, HH, HPT, HS⟩ := hrel
    obtain ⟨fu, hfu, hls, hrk⟩ := HS.out
    have i1 : (j : Int) < ((mo + 1 : Nat) : Int) := by omega
    have hkw : IntKind.i64.wrap ((j : Int) + 1) = (j : Int) + 1 := IntWalk.i64_in _ (by omega)
    obtain ⟨nd, hnd⟩ := Option.isSome_iff_exists.1 hls
    obtain ⟨Y, hLD⟩ := HH.out
    have hfu2 : D + 1 - (j + 1) = fu := by omega
    rw [hfu, tPath_at hnd hrk] at hLD
    have hmem := lookup_mem hnd
    have HD : Hid (Calls Tryz.prog 59 #[tkV a d.W me, .int .i64 r, .int .i64 key] wr fun e w' => ∃ v, e = .returned v ∧ LkU ⟨r, nd, wyOf nd key⟩ (fun b => wr.heap.size ≤ b ∧ b < w'.heap.size) w' v ∧ Below wr.heap.size wr w') := by
      obtain ⟨F, FW, T, h1, h2, -, -⟩ := hLD.bt.lv.lv
      obtain ⟨i, pp, hh, hnd2⟩ := hLD.bt.inv.stt.nod _ hmem
      have hnd3 : pp.nd = nd := hnd2
      have hok := HNO.out _ hmem
      rw [← hnd3]
      exact slook_walk h2 hLD.bt.inv.stt.len hLD.bt.inv.stt.cnt hh (by rw [hnd3]; exact hok.1) (by rw [hnd3]; exact hok.2)
    obtain ⟨t0, t1, t2⟩ := hLD.bt.tk
    have HLD := Lib.hid hLD
    have HND := Lib.hid hnd
    have HFU := Lib.hid hfu
    have HRK := Lib.hid hrk
    have HFU2 := Lib.hid hfu2
    clear HH hLD hls hfu hfu2 hmem HS hnd hrk
    go_wp2_with fail
    refine HD.out.mono ?_
    clear HD
    rintro e w2 ⟨v, rfl, ⟨pv, kv, zv, rfl, hNv⟩, b2⟩
    obtain ⟨P1, n1, q1, rfl⟩ := hNv.p.shape
    obtain ⟨P2, n2, q2, rfl⟩ := hNv.k.shape
    obtain ⟨P3, n3, q3, rfl⟩ := hNv.z.shape
    dsimp only
    obtain ⟨wy, hwy⟩ : ∃ wy : Nat, wyOf nd key = (wy : Int) := by
      unfold wyOf
      split
      · exact ⟨_, rfl⟩
      · exact ⟨0, rfl⟩
    have HWY := Lib.hid hwy
    rw [hwy] at HLD hNv ⊢
    obtain ⟨V, q, hV, hq, eV, bV, sV⟩ : ∃ (V : World) (q : Nat), w2.alloc (.cells #[.int .i64 r, .bool nd.inn, .bool nd.tag, .slice P1 n1 q1, .slice P2 n2 q2, .slice P3 n3 q3, .int .i64 (wy : Int)] stT) = V ∧ w2.heap.size = q ∧ Sev V q r nd.inn nd.tag (.slice P1 n1 q1) (.slice P2 n2 q2) (.slice P3 n3 q3) wy ∧ Below w2.heap.size w2 V ∧ V.heap.size = q + 1 := ⟨_, _, rfl, rfl, Sev.new _ rfl _ _ _ _ _ _ _, below_new _ _, by simp⟩
    obtain ⟨G, hG, bG, hgc, sG⟩ : ∃ G, V.alloc (.cells #[.int .i64 r, .bool nd.inn, .bool nd.tag, .slice P1 n1 q1, .slice P2 n2 q2, .slice P3 n3 q3, .int .i64 (wy : Int)] stT) = G ∧ Below V.heap.size V G ∧ G.heap[V.heap.size]? = some (.cells [.int .i64 r, .bool nd.inn, .bool nd.tag, .slice P1 n1 q1, .slice P2 n2 q2, .slice P3 n3 q3, .int .i64 (wy : Int)].toArray stT (0, 0)) ∧ G.heap.size = V.heap.size + 1 := ⟨_, rfl, below_new _ _, heap_alloc_new _ _, by simp⟩
    have bVG : Below w2.heap.size w2 G := bV.trans (bG.mono bV.size)
    have bRG : Below wr.heap.size wr G := b2.trans (bVG.mono b2.size)
    have b2s := b2.size
    have hx : SpR ⟨r, nd, (wy : Int)⟩ [.int .i64 r, .bool nd.inn, .bool nd.tag, .slice P1 n1 q1, .slice P2 n2 q2, .slice P3 n3 q3, .int .i64 (wy : Int)] (fun b => wr.heap.size ≤ b ∧ b < w2.heap.size) G := ⟨_, _, _, rfl, hNv.keep (fun b e _ => bVG.block b e.2) fun b e => e⟩
    obtain ⟨A', c', Z, Y', happ, hPL, hZq⟩ := HLD.out.push HR.out hx (fun b e => ⟨e.1, by omega⟩) bRG hgc (by omega) (q := q) ⟨by omega, by omega⟩
    rw [hll] at happ hPL
    have eZ : Sev Z q r nd.inn nd.tag (.slice P1 n1 q1) (.slice P2 n2 q2) (.slice P3 n3 q3) wy := (eV.below bG).at_ hZq
    obtain ⟨t0, t1, t2⟩ := hPL.bt.tk
    obtain ⟨y0, y1, y2, y3, y4, y5, y6⟩ := eZ.cells
    obtain ⟨x0, x1, x2, x3, x4, x5, x6⟩ := eV.cells
    have HPL := Lib.hid hPL
    rw [← hG] at happ
    have hgk := Lib.hid hll
    clear HLD hNv b2 bV bG hgc sG bVG bRG hx hZq eZ eV hPL hwy hG hll b2s sV
    cases hin : nd.inn with
    | false =>
      have HE : Hid (PostM d R w a wk PaU o (.returned (.slice A' (j + 1) c')) Z) := by
        have h := HPL.out
        rw [if_neg (by rw [hin]; simp)] at h
        exact h.fin HR.out
      rw [hin] at happ hV y1 x1
      clear HPL HPT hin
      go_upto_region 8 with fail
      (try rw [hV])
      clear hV hq
      go_wp2_with (at_builtin; refine Lib.wpList_append_run _ rfl _ _ _ _ rfl _ _ rfl rfl _ _ happ ?_)
      go_ret
      exact HE.out
    | true =>
      have hHW := sway_touch (me := me) (r := r) (i := wy) HPL.out.bt.inv.stt.win HPL.out.bt.lv
      have HW := Lib.hid hHW
      have HIN := Lib.hid hin
      rw [hin] at happ hV y1 x1
      clear hHW hin
      go_upto_region 8 with fail
      (try rw [hV])
      clear hV hq
      go_wp2_with (at_builtin; refine Lib.wpList_append_run _ rfl _ _ _ _ rfl _ _ rfl rfl _ _ happ ?_)
      refine HW.out.mono ?_
      clear HW happ
      intro e w3 hPm
      have hPL0 := HPL.out
      rw [if_pos HIN.out] at hPL0
      have hkw2 : kpP (SkI nds rk M mo) (tDo (gWay r (wy : Int))) := keeps_kpP (show (tDo (gWay r (wy : Int))).keeps (SkI nds rk M mo) from And.intro (fun s h => h.way _ _) fun _ => trivial)
      rcases BT.call (P := SkI nds rk M mo) (t := tDo (gWay r (wy : Int))) (o := o) (K := fun z => tPath nds rk key fu z (l ++ [⟨r, nd, (wy : Int)⟩])) hPL0.bt hkw2 hPm with ⟨z, c3, s3, rfl, hrun, hB, hKp⟩ | hx
      case inr => obtain ⟨rfl, hx⟩ := hx; exact ⟨rfl, .inr ⟨rfl, hx⟩⟩
      have HN : Hid (PLE nds rk M mo d R w a me wk p o (l ++ [⟨r, nd, (wy : Int)⟩]) (.slice A' (j + 1) c') (tPath nds rk key (D + 1 - (j + 1)) z (l ++ [⟨r, nd, (wy : Int)⟩])) w3 c3 s3) := by
        rw [HFU2.out]
        exact ⟨Y', hB, hPL0.sl.keep (fun b e => hKp.block b (.inr e)) (fun b e => e), hPL0.yn, hPL0.hp⟩
      have hdp : (s3 = s2 ∧ c3.live = true ∧ path ((tPath nds rk key fu z (l ++ [⟨r, nd, (wy : Int)⟩])).bind K) (c3.zs.drop c3.k) s3) ∨ (c3.live = false ∧ z = (gWay r (wy : Int) s2).1 ∧ s3 = (gWay r (wy : Int) s2).2) := by
        refine do_path (K := fun z => (tPath nds rk key fu z (l ++ [⟨r, nd, (wy : Int)⟩])).bind K) hrun fun hl => ?_
        have := HPT.out hl
        rw [HFU.out, tPath_at HND.out HRK.out, if_pos HIN.out, HWY.out, Tr.bind_bind] at this
        exact this
      have HP2 : Hid (c3.live = true → path ((tPath nds rk key (D + 1 - (j + 1)) z (l ++ [⟨r, nd, (wy : Int)⟩])).bind K) (c3.zs.drop c3.k) s3) := by
        rw [HFU2.out]
        intro hl
        rcases hdp with ⟨-, -, h⟩ | ⟨h, -, -⟩
        · exact h
        · rw [h] at hl; cases hl
      have HS2 : Hid (∃ fu, D + 1 - (j + 1) = fu + 1 ∧ (nds.lookup z).isSome = true ∧ rk z ≤ fu) := by
        rcases hdp with ⟨-, -, h⟩ | ⟨-, h, -⟩
        · obtain ⟨g, e1, e2, e3⟩ := path_some h
          exact ⟨g, by rw [HFU2.out]; exact e1, e2, e3⟩
        · have hn := hPL0.bt.inv.next HND.out HIN.out key
          rw [HWY.out, ← h] at hn
          have := HRK.out
          exact ⟨fu - 1, by rw [HFU2.out]; omega, hn.1, by omega⟩
      have hlen : (l ++ [(⟨r, nd, (wy : Int)⟩ : Sp)]).length = j + 1 := by rw [List.length_append, hgk.out]; rfl
      have HLE := Lib.hid hlen
      clear hkw2 hPm hPL0 hrun hB hKp hdp HPL HPT t0 t1 t2 y0 y1 y2 y3 y4 y5 y6 x0 x1 x2 x3 x4 x5 x6 hlen
      go_wp2
      go_roundg (gk - 1)
      case measure => omega
      case rel => exact ⟨j + 1, A', c', z, _, c3, s3, by obtain ⟨g, e1, -, -⟩ := HS2.out; omega, by go_num, rfl, rfl, HLE.out, HN.out, HP2.out, HS2.out⟩
end
end Go.Proofs.YtcegianjpifnbaaGreat
namespace Go.Proofs.YtcegianjpifnbaaGreat
open Go.ChangeShapes Go.WideShapes Go.ChangeAt Go.RowKit
set_option linter.unusedVariables false
set_option linter.unusedSimpArgs false
set_option maxRecDepth 20000

def cntN (nd : Nd) : Int := if nd.inn = true then (nd.ks.length : Int) else -1 - (nd.ps.length : Int)
def flatS (l : List Sp) : List Int := l.flatMap fun x => [x.rf, x.wy, Go.Proofs.YtcegianjpifnbaaGreat.cntN x.nd]
theorem flatS_len (l : List Sp) : (flatS l).length = 3 * l.length := by
  induction l with
  | nil => rfl
  | cons x l ih => show (_ ++ flatS l).length = _; rw [List.length_append, ih]; simp; omega
theorem flatS_snoc (l : List Sp) (x : Sp) : flatS (l ++ [x]) = flatS l ++ [x.rf, x.wy, Go.Proofs.YtcegianjpifnbaaGreat.cntN x.nd] := by unfold flatS; rw [List.flatMap_append]; simp
def tWalk (nds : List (Int × Nd)) (rk : Int → Nat) (key : Int) (f : Nat) (en : Int) : Tr (List Int) := (tPath nds rk key f en []).bind fun l => .ret (flatS l)
theorem rets_small {nds : List (Int × Nd)} {rk : Int → Nat} {key : Int} (hN : NdsOk nds) (f : Nat) (r : Int) (acc : List Sp) (ha : ∀ x ∈ acc, x.nd.small) : rets (fun l => ∀ x ∈ l, x.nd.small) (tPath nds rk key f r acc) := by
  induction f generalizing r acc with
  | zero => exact fun _ x hx => by cases hx
  | succ f ih =>
    unfold tPath
    split
    · exact fun _ x hx => by cases hx
    · rename_i nd hl
      have h2 : ∀ x ∈ acc ++ [(⟨r, nd, wyOf nd key⟩ : Sp)], x.nd.small := fun x hx => by
        rcases List.mem_append.1 hx with e | e
        · exact ha x e
        · obtain rfl := List.mem_singleton.1 e
          exact (hN _ (lookup_mem hl)).1
      split
      · split
        · exact fun z => ih z _ h2
        · exact h2
      · exact fun _ x hx => by cases hx
/-- What is told grows: its row T; the steps stay. -/
structure WKI (d : Wd) (R : Nat → Prop) (w : World) (a : Nat) (wk : Value) (c : Cur) (s : Sig) (q : Nat) (sv : Value) (l : List Sp) (Y : Nat → Prop) (T : Value) (zs : List Int) (wr : World) : Prop where
  lv : Lv d (fun b => R b ∨ T.ownBlock = some b) wr a wk c s
  kp : Kp R w wr
  st : SpL l Y wr sv
  yo : ∀ b, Y b → b < q
  row : Row i6T 0 wr T zs
  own : ∀ b, T.ownBlock = some b → q ≤ b
  rq : ∀ b, R b → b < q
  sz : q ≤ wr.heap.size
section
variable {nds : List (Int × Nd)} {rk : Int → Nat} {M mo D : Nat} {d : Wd} {R R' X X' : Nat → Prop} {w w' w0 wr w1 : World} {a st ph k me p q : Nat} {wk sv T : Value} {zs ws : List Int} {c : Cur} {s : Sig} {n r key : Int} {nd : Nd} {l : List Sp} {Y : Nat → Prop}
theorem WKI.below (h : WKI d R w a wk c s q sv l Y T zs wr) (hb : Below wr.heap.size wr w') : WKI d R w a wk c s q sv l Y T zs w' :=
  ⟨h.lv.below hb, h.kp.trans (Kp.below hb fun b e => h.lv.lt b (.inl e)), h.st.keep (fun b e => hb.block b (Nat.lt_of_lt_of_le (h.yo b e) h.sz)) fun b e => e, h.yo, own_at h.row fun b e => hb.block b (h.lv.lt b (.inr e)), h.own, h.rq, Nat.le_trans h.sz hb.size⟩
theorem WKI.push {x y z : Int} {g : Nat} (h : WKI d R w a wk c s q sv l Y T zs wr) (hl : zs.length ≤ 1000) (hg : wr.heap.size = g) :
    ∃ A' m' c' Z, (Builtin.append_ #[24, 24] 24 #[T, .slice (some ⟨g, 0, none⟩) 3 3]).run Tryz.prog (wr.alloc (.cells #[.int .i64 x, .int .i64 y, .int .i64 z] i6T)) = .ok (.slice A' m' c') Z ∧ WKI d R w a wk c s q sv l Y (.slice A' m' c') (zs ++ [x, y, z]) Z := by
  subst hg
  have hb := below_new wr (.cells #[.int .i64 x, .int .i64 y, .int .i64 z] i6T)
  have hsl : Sl (wr.alloc (.cells #[.int .i64 x, .int .i64 y, .int .i64 z] i6T)) (some ⟨wr.heap.size, 0, none⟩) 3 3 [x, y, z] := by
    refine ⟨rfl, Nat.le_refl _, (fun e => by cases e), .inr ⟨_, 0, rfl, fun i u hu => ?_⟩⟩
    rw [cell_of_row _ _ _ _ _ (0, 0) (heap_alloc_new wr _), Nat.zero_add]
    match i, hu with
    | 0, hu => simp at hu; subst hu; rfl
    | 1, hu => simp at hu; subst hu; rfl
    | 2, hu => simp at hu; subst hu; rfl
  obtain ⟨A', m', c', Z, q1, q2, q3, q4⟩ := run_pushN rowK (own_at h.row fun b e => hb.block b (h.lv.lt b (.inr e))) hsl (by simp; omega) (by simp)
  have hlv := h.lv.below hb
  have hZ : ∀ b, (Value.slice A' m' c').ownBlock = some b → b < Z.heap.size := fun b e => (World.ownsRow.lt q2 b e).2
  have hne : ∀ b, R b → some b ≠ T.ownBlock := fun b e f => by have := h.own b f.symm; have := h.rq b e; omega
  refine ⟨A', m', c', Z, q1, ⟨hlv.lv.kept q3 (fun b e => .inr e) (fun b e => ?_), hlv.ok, hlv.few, hlv.in64, hlv.fit⟩, ?_, h.st.keep (fun b e => ?_) (fun b e => e), h.yo, q2, fun b e => ?_, h.rq, Nat.le_trans h.sz (Nat.le_trans hb.size q3.size)⟩
  · rcases e with e | e
    · exact .inl (.inl e)
    · exact (q4 b e).imp .inr fun e2 => ⟨e2, hZ b e⟩
  · exact (h.kp.trans (Kp.below hb fun b e => h.lv.lt b (.inl e))).trans ⟨q3.os, q3.tape, q3.output, q3.size, fun b e => q3.block b (hlv.lt b (.inl e)) fun f => hne b e f⟩
  · have hq := h.yo b e
    have hlt : b < wr.heap.size := Nat.lt_of_lt_of_le hq h.sz
    rw [q3.block b (Nat.lt_of_lt_of_le hlt hb.size) (fun f => by have := h.own b f.symm; omega), hb.block b hlt]
  · rcases q4 b e with e2 | e2
    · exact h.own b e2
    · exact Nat.le_trans (Nat.le_trans h.sz hb.size) e2
end
end Go.Proofs.YtcegianjpifnbaaGreat
namespace Go.Proofs.YtcegianjpifnbaaGreat
open Go.ChangeShapes Go.WideShapes Go.ChangeAt Go.RowKit
set_option linter.unusedVariables false
set_option linter.unusedSimpArgs false
set_option maxRecDepth 20000

/-- The way, as the ways are. -/
def pathS (nds : List (Int × Nd)) (key : Int) (s : Sig) : Nat → Int → List Sp
  | 0, _ => []
  | f + 1, r => match nds.lookup r with
    | none => []
    | some nd => if nd.inn = true then ⟨r, nd, wyOf nd key⟩ :: pathS nds key s f (gWay r (wyOf nd key) s).1 else [⟨r, nd, wyOf nd key⟩]
def tW (nds : List (Int × Nd)) (rk : Int → Nat) (key : Int) (f : Nat) (r : Int) (acc : List Sp) : Tr (List Int) := (tPath nds rk key f r acc).bind fun l => .ret (flatS l)
section
variable {β : Type} {nds : List (Int × Nd)} {rk : Int → Nat} {M mo D f : Nat} {s : Sig} {key r : Int} {nd : Nd} {acc : List Sp} {K : List Sp → Tr β}
theorem pathS_at (h : nds.lookup r = some nd) : pathS nds key s (f + 1) r = if nd.inn = true then ⟨r, nd, wyOf nd key⟩ :: pathS nds key s f (gWay r (wyOf nd key) s).1 else [⟨r, nd, wyOf nd key⟩] := by
  simp only [pathS, h]
/-- A tree that goes on. -/
structure Ok1 (nds : List (Int × Nd)) (rk : Int → Nat) (f : Nat) (r : Int) : Prop where
  at_ : (nds.lookup r).isSome = true
  rk : rk r ≤ f
theorem nl_path (h : Ok1 nds rk f r) : nl ((tPath nds rk key (f + 1) r acc).bind K) ∨ ∃ l, (tPath nds rk key (f + 1) r acc).bind K = K l := by
  obtain ⟨nd, hl⟩ := Option.isSome_iff_exists.1 h.at_
  rw [tPath_at hl h.rk]
  split
  · exact .inl trivial
  · exact .inr ⟨_, rfl⟩
theorem nl_tW (h : Ok1 nds rk f r) : nl (tW nds rk key (f + 1) r acc) := by
  rcases nl_path (K := fun l => (.ret (flatS l) : Tr (List Int))) (key := key) (acc := acc) h with e | ⟨l, e⟩
  · exact e
  · unfold tW; rw [e]; exact trivial
theorem hd_tW (h : Ok1 nds rk f r) : hd (tW nds rk key (f + 1) r acc) s := by
  have := nl_tW (key := key) (acc := acc) h
  cases e : tW nds rk key (f + 1) r acc with
  | ret v => exact trivial
  | tch g K => exact trivial
  | lk n K => rw [e] at this; exact this.elim
theorem Ok1.next (h : Ok1 nds rk f r) (hS : SkI nds rk M mo s) (hl : nds.lookup r = some nd) (hi : nd.inn = true) (key : Int) : ∃ g, f = g + 1 ∧ Ok1 nds rk g (gWay r (wyOf nd key) s).1 := by
  have := hS.next hl hi key
  have := h.rk
  exact ⟨f - 1, by omega, ⟨(hS.next hl hi key).1, by omega⟩⟩
theorem ev_path (hS : SkI nds rk M mo s) (h : Ok1 nds rk f r) (K : List Sp → List Int) : ev ((tPath nds rk key (f + 1) r acc).bind fun l => .ret (K l)) s = (K (acc ++ pathS nds key s (f + 1) r), s, (pathS nds key s (f + 1) r).length - 1) := by
  induction f generalizing r acc with
  | zero =>
    obtain ⟨nd, hl⟩ := Option.isSome_iff_exists.1 h.at_
    rw [tPath_at hl h.rk, pathS_at hl]
    cases hi : nd.inn with
    | true => obtain ⟨g, e, -⟩ := h.next hS hl hi key; omega
    | false => rfl
  | succ f ih =>
    obtain ⟨nd, hl⟩ := Option.isSome_iff_exists.1 h.at_
    rw [tPath_at hl h.rk, pathS_at hl]
    cases hi : nd.inn with
    | true =>
      obtain ⟨g, e, h2⟩ := h.next hS hl hi key
      obtain rfl : f = g := by omega
      rw [if_pos rfl, if_pos rfl]
      have hs := (hS.next hl hi key).2.2
      have hi2 := ih (r := (gWay r (wyOf nd key) s).1) (acc := acc ++ [⟨r, nd, wyOf nd key⟩]) h2
      show ev (.tch (gWay r (wyOf nd key)) fun z => (tPath nds rk key (f + 1) z (acc ++ [⟨r, nd, wyOf nd key⟩])).bind fun l => .ret (K l)) s = _
      simp only [ev]
      rw [hs, hi2]
      have hpos : 1 ≤ (pathS nds key s (f + 1) (gWay r (wyOf nd key) s).1).length := by
        obtain ⟨nd2, hl2⟩ := Option.isSome_iff_exists.1 h2.at_
        rw [pathS_at hl2]
        split <;> simp
      simp only [List.append_assoc, List.singleton_append, List.length_cons]
      congr 2
      omega
    | false => rfl
theorem ok_path (hS : SkI nds rk M mo s) (hF : Fit s) (h : Ok1 nds rk f r) (K : List Sp → List Int) : okT ((tPath nds rk key (f + 1) r acc).bind fun l => .ret (K l)) s ∧ all (fun s => SkI nds rk M mo s ∧ Fit s) ((tPath nds rk key (f + 1) r acc).bind fun l => .ret (K l)) s := by
  induction f generalizing r acc with
  | zero =>
    obtain ⟨nd, hl⟩ := Option.isSome_iff_exists.1 h.at_
    rw [tPath_at hl h.rk]
    cases hi : nd.inn with
    | true => obtain ⟨g, e, -⟩ := h.next hS hl hi key; omega
    | false => exact ⟨trivial, hS, hF⟩
  | succ f ih =>
    obtain ⟨nd, hl⟩ := Option.isSome_iff_exists.1 h.at_
    rw [tPath_at hl h.rk]
    cases hi : nd.inn with
    | true =>
      obtain ⟨g, e, h2⟩ := h.next hS hl hi key
      obtain rfl : f = g := by omega
      have hs := (hS.next hl hi key).2.2
      obtain ⟨k1, k2⟩ := ih (r := (gWay r (wyOf nd key) s).1) (acc := acc ++ [⟨r, nd, wyOf nd key⟩]) h2
      have hh : hd ((tPath nds rk key (f + 1) (gWay r (wyOf nd key) s).1 (acc ++ [⟨r, nd, wyOf nd key⟩])).bind fun l => (.ret (K l) : Tr (List Int))) s := by
        rcases nl_path (K := fun l => (.ret (K l) : Tr (List Int))) (key := key) (acc := acc ++ [⟨r, nd, wyOf nd key⟩]) h2 with e | ⟨l, e⟩
        · cases e2 : (tPath nds rk key (f + 1) (gWay r (wyOf nd key) s).1 (acc ++ [⟨r, nd, wyOf nd key⟩])).bind fun l => (.ret (K l) : Tr (List Int)) with
          | ret v => exact trivial
          | tch g K => exact trivial
          | lk n K => rw [e2] at e; exact e.elim
        · rw [e]; exact trivial
      rw [if_pos rfl]
      refine ⟨⟨⟨?_, ?_⟩, ?_⟩, ⟨hS, hF⟩, ?_⟩
      · rw [hs]; exact Le.refl s
      · rw [hs]; exact hh
      · rw [hs]; exact k1
      · rw [hs]; exact k2
    | false => exact ⟨trivial, hS, hF⟩
end
section
variable {W : World} {X : Nat → Prop} {d : Wd} {n T i M mo D f : Nat} {hs : Nat → Hp} {os : Nat → Ts} {s s' : Sig} {w w' : World} {nds : List (Int × Nd)} {rk : Int → Nat} {key r : Int} {acc : List Sp}
/-- Thread i alone, to its end: what is left of it goes down from a node. -/
theorem MB.aloneW {K : List Sp → List Int} {v : List Int} {k N : Nat} {kz : Int} (h : MB W X d n T hs os s w) (hi : i < n) (ho : os i = .run ((tPath nds rk key (f + 1) r acc).bind fun l => .ret (K l))) (hp : (hs i).P = SkI nds rk M mo) (hS : SkI nds rk M mo s) (hF : Fit s) (hk : Ok1 nds rk f r) (hv : K (acc ++ pathS nds key s (f + 1) r) = v) (hm : (pathS nds key s (f + 1) r).length - 1 = k) (hN : k ≤ N) (hT : T + N ≤ 430) (hlen : v.length ≤ 1000) (hkz : ((max k 1 : Nat) : Int) = kz) :
    Calls Tryz.prog 12 #[ptr (hs i).a] w fun e w' => ∃ A q c, e = .returned (.tuple #[.slice A q c, .int .i64 kz, .bool true]) ∧ Row 2 w.heap.size w' (.slice A q c) v ∧ MB W X d n (T + N + 1) hs (upd os i (.fin v)) s w' ∧ Kp (RX W X) w w' := by
  have hev := ev_path (acc := acc) (key := key) hS hk K
  rw [hv, hm] at hev
  obtain ⟨k1, k2⟩ := ok_path (acc := acc) (key := key) hS hF hk K
  have hnl : nl ((tPath nds rk key (f + 1) r acc).bind fun l => (.ret (K l) : Tr (List Int))) := by
    rcases nl_path (K := fun l => (.ret (K l) : Tr (List Int))) (key := key) (acc := acc) hk with e | ⟨l, e⟩
    · exact e
    · rw [e]; exact trivial
  have := h.me.aloneM (M := N) hi ho hnl (by rw [hp]; exact k2) k1 hT (by rw [hev]; exact hN) (by rw [hev]; exact hlen)
  rw [hev] at this
  simp only [hkz] at this
  refine this.mono ?_
  rintro e w' ⟨A, q, c, rfl, h1, h2, h3⟩
  exact ⟨A, q, c, rfl, h1, h.kp h2 h3, h3⟩
end
end Go.Proofs.YtcegianjpifnbaaGreat
