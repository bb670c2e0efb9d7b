/-
  Operations as trees of touches: what comes of one that is gone through again up to its next touch; what all share, as plain data, and what each touch makes of it. No function of the program in sight.
-/
import Derived.Test.YtmhmgdpcibldlaaPa
import Derived.Test.YtmhmgdpcibldlaaPb
import Derived.Test.YtmhmgdpcibldlaaPc
import Derived.Test.YtmhmgdpcibldlaaPd
namespace Go.Proofs.Ytmhmgdpcibldlaa
set_option linter.unusedVariables false
set_option maxRecDepth 20000

/-- A record as plain data: what it is, its state, whether all is set. -/
structure Re where
  rc : Rc
  st : Int
  all : Bool
/-- What all share: the arena, the epoch, what each thread announced and let go, the records. -/
structure Sig where
  ar : As
  now : Int
  S : List Tq
  rs : List Re

/-- Where a record stands, by its number. -/
def rcAt (l : List Re) (n : Int) : Option (Nat × Re) := if n < 1 then none else match l[(n - 1).toNat]? with
  | some x => some ((n - 1).toNat, x)
  | none => none
/-- What a record is; nothing, if the number is none's. -/
def rcOf (l : List Re) (n : Int) : Rc := match rcAt l n with
  | some (_, x) => x.rc
  | none => Rc.nil
/-- There is a record of that number. -/
def has (s : Sig) (n : Int) : Prop := rcAt s.rs n ≠ none
/-- An operation: its answer; a touch, and what follows for each number that the touch tells; a look at a record. -/
inductive Tr (α : Type) where
  | ret (v : α)
  | tch (g : Sig → Int × Sig) (K : Int → Tr α)
  | lk (n : Int) (K : Rc → Tr α)
def Tr.bind {α β : Type} : Tr α → (α → Tr β) → Tr β
  | .ret v, k => k v
  | .tch g K, k => .tch g fun z => (K z).bind k
  | .lk n K, k => .lk n fun r => (K r).bind k
/-- How far a thread is: what was told, how many touches, how many of these work has come by, whether this Step's touch is still to come. -/
structure Cur where
  zs : List Int
  st : Nat
  k : Nat
  live : Bool
def Cur.ok (c : Cur) : Prop := (c.live = true → c.k ≤ c.zs.length) ∧ (c.live = false → c.k = c.zs.length)
inductive Out (α : Type) where
  | ret (v : α) (c : Cur) (s : Sig)
  | wait (zs : List Int) (st : Nat) (s : Sig)
/-- Gone through from where c is. -/
def run {α : Type} : Tr α → Cur → Sig → Out α
  | .ret v, c, s => .ret v c s
  | .tch g K, c, s =>
    if c.live = true then
      if c.k < c.zs.length then run (K (c.zs.getD c.k 0)) { c with k := c.k + 1 } s
      else run (K (g s).1) ⟨c.zs ++ [(g s).1], c.st + 1, c.k + 1, false⟩ (g s).2
    else .wait c.zs c.st s
  | .lk n K, c, s => run (K (rcOf s.rs n)) c s
def Out.bind {α β : Type} : Out α → (α → Cur → Sig → Out β) → Out β
  | .ret v c s, k => k v c s
  | .wait zs st s, _ => .wait zs st s
section
variable {α β γ : Type}
theorem run_bind (t : Tr α) (K : α → Tr β) (c : Cur) (s : Sig) : run (t.bind K) c s = (run t c s).bind fun v c s => run (K v) c s := by
  induction t generalizing c s with
  | ret v => rfl
  | tch g K' ih =>
    simp only [Tr.bind, run]
    split
    · split
      · exact ih _ _ _
      · exact ih _ _ _
    · rfl
  | lk n K' ih => exact ih _ _ _
theorem Tr.bind_ret (t : Tr α) : t.bind .ret = t := by
  induction t with
  | ret v => rfl
  | tch g K ih => simp only [Tr.bind]; congr 1; funext z; exact ih z
  | lk n K ih => simp only [Tr.bind]; congr 1; funext z; exact ih z
theorem Tr.bind_bind (t : Tr α) (f : α → Tr β) (h : β → Tr γ) : (t.bind f).bind h = t.bind fun v => (f v).bind h := by
  induction t with
  | ret v => rfl
  | tch g K ih => simp only [Tr.bind]; congr 1; funext z; exact ih z
  | lk n K ih => simp only [Tr.bind]; congr 1; funext z; exact ih z
theorem run_replay (g : Sig → Int × Sig) (K : Int → Tr α) (zs : List Int) (st k : Nat) (s : Sig) (hk : k < zs.length) : run (.tch g K) ⟨zs, st, k, true⟩ s = run (K (zs.getD k 0)) ⟨zs, st, k + 1, true⟩ s := by
  simp only [run, if_true]; rw [if_pos hk]
theorem run_fresh (g : Sig → Int × Sig) (K : Int → Tr α) (zs : List Int) (st k : Nat) (s : Sig) (hk : k = zs.length) : run (.tch g K) ⟨zs, st, k, true⟩ s = run (K (g s).1) ⟨zs ++ [(g s).1], st + 1, k + 1, false⟩ (g s).2 := by
  simp only [run, if_true]; rw [if_neg (by omega)]
theorem run_wait (g : Sig → Int × Sig) (K : Int → Tr α) (zs : List Int) (st k : Nat) (s : Sig) : run (.tch g K) ⟨zs, st, k, false⟩ s = .wait zs st s := by
  simp [run]

/-- What comes first: an answer, or a touch; looks ahead of it are done. -/
def nrm : Tr α → Sig → Tr α
  | .ret v, _ => .ret v
  | .tch g K, _ => .tch g K
  | .lk n K, s => nrm (K (rcOf s.rs n)) s
/-- What is looked at ahead of the next touch is there. -/
def hd : Tr α → Sig → Prop
  | .ret _, _ => True
  | .tch _ _, _ => True
  | .lk n K, s => has s n ∧ hd (K (rcOf s.rs n)) s
/-- What is left of an operation that was told zs. -/
def res : Tr α → List Int → Sig → Tr α
  | t, [], s => nrm t s
  | .ret v, _ :: _, _ => .ret v
  | .tch _ K, z :: zs, s => res (K z) zs s
  | .lk n K, z :: zs, s => res (K (rcOf s.rs n)) (z :: zs) s
/-- It has a touch for each number of zs; the records that it looks at are there. -/
def path : Tr α → List Int → Sig → Prop
  | t, [], s => hd t s
  | .ret _, _ :: _, _ => False
  | .tch _ K, z :: zs, s => path (K z) zs s
  | .lk n K, z :: zs, s => has s n ∧ path (K (rcOf s.rs n)) (z :: zs) s
/-- Later: the records that there were are as they were. -/
def Le (s s' : Sig) : Prop := ∀ n, has s n → has s' n ∧ rcOf s'.rs n = rcOf s.rs n
theorem Le.refl (s : Sig) : Le s s := fun n h => ⟨h, rfl⟩
theorem Le.trans {s s' s2 : Sig} (h : Le s s') (k : Le s' s2) : Le s s2 := fun n e => ⟨(k n (h n e).1).1, (k n (h n e).1).2.trans (h n e).2⟩
theorem hd_le {t : Tr α} {s s' : Sig} (h : hd t s) (hl : Le s s') : hd t s' ∧ nrm t s' = nrm t s := by
  induction t with
  | ret v => exact ⟨trivial, rfl⟩
  | tch g K ih => exact ⟨trivial, rfl⟩
  | lk n K ih =>
    obtain ⟨h1, h2⟩ := h
    obtain ⟨k1, k2⟩ := hl n h1
    have := ih _ h2
    refine ⟨⟨k1, ?_⟩, ?_⟩
    · rw [k2]; exact this.1
    · show nrm (K (rcOf s'.rs n)) s' = nrm (K (rcOf s.rs n)) s; rw [k2]; exact this.2
theorem path_le {t : Tr α} {zs : List Int} {s s' : Sig} (h : path t zs s) (hl : Le s s') : path t zs s' ∧ res t zs s' = res t zs s := by
  induction t generalizing zs with
  | ret v => cases zs with
    | nil => exact ⟨trivial, rfl⟩
    | cons z zs => exact h.elim
  | tch g K ih => cases zs with
    | nil => exact ⟨trivial, rfl⟩
    | cons z zs => exact ih z h
  | lk n K ih => cases zs with
    | nil => exact hd_le (t := .lk n K) h hl
    | cons z zs =>
      obtain ⟨h1, h2⟩ := h
      obtain ⟨k1, k2⟩ := hl n h1
      have := ih _ h2
      refine ⟨⟨k1, ?_⟩, ?_⟩
      · rw [k2]; exact this.1
      · show res (K (rcOf s'.rs n)) (z :: zs) s' = res (K (rcOf s.rs n)) (z :: zs) s; rw [k2]; exact this.2
/-- No look stands first. -/
def nl : Tr α → Prop
  | .lk _ _ => False
  | _ => True
theorem nl_nrm (t : Tr α) (s : Sig) : nl (nrm t s) := by
  induction t with
  | ret v => exact trivial
  | tch g K ih => exact trivial
  | lk n K ih => exact ih _
theorem nrm_nl {t : Tr α} (h : nl t) (s : Sig) : nrm t s = t := by
  cases t with
  | ret v => rfl
  | tch g K => rfl
  | lk n K => exact h.elim
theorem nl_res (t : Tr α) (zs : List Int) (s : Sig) : nl (res t zs s) := by
  induction t generalizing zs with
  | ret v => cases zs <;> exact trivial
  | tch g K ih => cases zs with
    | nil => exact trivial
    | cons z zs => exact ih z zs
  | lk n K ih => cases zs with
    | nil => exact nl_nrm (.lk n K) s
    | cons z zs => exact ih _ _
theorem run_nrm (t : Tr α) (c : Cur) (s : Sig) : run t c s = run (nrm t s) c s := by
  induction t with
  | ret v => rfl
  | tch g K ih => rfl
  | lk n K ih => exact ih _
theorem run_path (t : Tr α) (zs : List Int) (st k : Nat) (s : Sig) (hp : path t (zs.drop k) s) (hk : k ≤ zs.length) : run t ⟨zs, st, k, true⟩ s = run (res t (zs.drop k) s) ⟨zs, st, zs.length, true⟩ s := by
  induction t generalizing k with
  | ret v =>
    cases h : zs.drop k with
    | nil =>
      have : k = zs.length := by have := List.drop_eq_nil_iff.1 h; omega
      subst this; rfl
    | cons z l => rw [h] at hp; exact hp.elim
  | tch g K ih =>
    cases h : zs.drop k with
    | nil =>
      have : k = zs.length := by have := List.drop_eq_nil_iff.1 h; omega
      subst this; rfl
    | cons z l =>
      have hlt : k < zs.length := by
        by_cases hh : k < zs.length
        · exact hh
        · rw [List.drop_eq_nil_of_le (by omega)] at h; cases h
      have hd := List.drop_eq_getElem_cons hlt
      rw [h] at hd
      injection hd with h1 h2
      rw [h] at hp
      rw [run_replay _ _ _ _ _ _ hlt, show zs.getD k 0 = z from by rw [h1]; simp [List.getD, hlt]]
      rw [ih z (k + 1) (by rw [← h2]; exact hp) (by omega), ← h2]
      rfl
  | lk n K ih =>
    cases h : zs.drop k with
    | nil =>
      have : k = zs.length := by have := List.drop_eq_nil_iff.1 h; omega
      subst this; exact run_nrm _ _ _
    | cons z l =>
      rw [h] at hp
      have := ih (rcOf s.rs n) k (by rw [h]; exact hp.2) hk
      rw [h] at this
      exact this
theorem path_snoc {t : Tr α} {zs : List Int} {s s' : Sig} {g : Sig → Int × Sig} {K : Int → Tr α} (hp : path t zs s) (hr : res t zs s = .tch g K) (z : Int) (hl : Le s s') (hh : hd (K z) s') : path t (zs ++ [z]) s' ∧ res t (zs ++ [z]) s' = nrm (K z) s' := by
  have key : ∀ t : Tr α, nrm t s = .tch g K → hd t s → path t [z] s' ∧ res t [z] s' = nrm (K z) s' := by
    intro t
    induction t with
    | ret v => intro h; cases h
    | tch g' K' ih => intro h _; injection h with h1 h2; subst h2; exact ⟨by simpa [path] using hh, by simp [res]⟩
    | lk n K' ih =>
      intro h h2
      obtain ⟨k1, k2⟩ := hl n h2.1
      have := ih _ h h2.2
      refine ⟨⟨k1, ?_⟩, ?_⟩
      · rw [k2]; exact this.1
      · show res (K' (rcOf s'.rs n)) [z] s' = _; rw [k2]; exact this.2
  induction t generalizing zs with
  | ret v => cases zs with
    | nil => cases hr
    | cons y zs => exact hp.elim
  | tch g' K' ih => cases zs with
    | nil => exact key _ hr hp
    | cons y zs => exact ih y hp hr
  | lk n K' ih => cases zs with
    | nil => exact key _ hr hp
    | cons y zs =>
      obtain ⟨k1, k2⟩ := hl n hp.1
      have := ih _ hp.2 hr
      refine ⟨⟨k1, ?_⟩, ?_⟩
      · rw [k2]; exact this.1
      · show res (K' (rcOf s'.rs n)) (y :: (zs ++ [z])) s' = _; rw [k2]; exact this.2
/-- A Step of what is left: the end, or more. -/
inductive Stp (α : Type) where
  | done (v : α) (s : Sig)
  | more (z : Int) (s : Sig)
def stp : Tr α → Sig → Stp α
  | .ret v, s => .done v s
  | .tch g K, s => match nrm (K (g s).1) (g s).2 with
    | .ret v => .done v (g s).2
    | _ => .more (g s).1 (g s).2
  | .lk _ _, s => .more 0 s
/-- A Step, gone through from the beginning. -/
theorem run_stp (t : Tr α) (zs : List Int) (st : Nat) (s : Sig) (hp : path t zs s) : (∃ v c s', run t ⟨zs, st, 0, true⟩ s = .ret v c s' ∧ stp (res t zs s) s = .done v s') ∨ (∃ z s', run t ⟨zs, st, 0, true⟩ s = .wait (zs ++ [z]) (st + 1) s' ∧ stp (res t zs s) s = .more z s') := by
  rw [run_path t zs st 0 s (by simpa using hp) (by omega), List.drop_zero]
  have hn := nl_res t zs s
  cases h : res t zs s with
  | ret v => exact .inl ⟨v, _, _, rfl, rfl⟩
  | lk n K => rw [h] at hn; exact hn.elim
  | tch g K =>
    rw [run_fresh _ _ _ _ _ _ rfl, run_nrm]
    simp only [stp]
    have hn2 := nl_nrm (K (g s).1) (g s).2
    cases h2 : nrm (K (g s).1) (g s).2 with
    | ret v => exact .inl ⟨v, _, _, rfl, rfl⟩
    | tch g' K' => exact .inr ⟨_, _, run_wait _ _ _ _ _ _, rfl⟩
    | lk n K' => rw [h2] at hn2; exact hn2.elim
/-- Alone: its answer, what all share behind it, how many touches it took. -/
def ev : Tr α → Sig → α × Sig × Nat
  | .ret v, s => (v, s, 0)
  | .tch g K, s => ((ev (K (g s).1) (g s).2).1, (ev (K (g s).1) (g s).2).2.1, (ev (K (g s).1) (g s).2).2.2 + 1)
  | .lk n K, s => ev (K (rcOf s.rs n)) s
theorem ev_nrm (t : Tr α) (s : Sig) : ev t s = ev (nrm t s) s := by
  induction t with
  | ret v => rfl
  | tch g K ih => rfl
  | lk n K ih => exact ih _
theorem ev_bind (t : Tr α) (K : α → Tr β) (s : Sig) : ev (t.bind K) s = ((ev (K (ev t s).1) (ev t s).2.1).1, (ev (K (ev t s).1) (ev t s).2.1).2.1, (ev t s).2.2 + (ev (K (ev t s).1) (ev t s).2.1).2.2) := by
  induction t generalizing s with
  | ret v => simp [Tr.bind, ev]
  | tch g K' ih => simp only [Tr.bind, ev, ih]; congr 2; omega
  | lk n K' ih => exact ih _ _
/-- What holds of all that is shared, all along, of an operation that goes on alone. -/
def all (P : Sig → Prop) : Tr α → Sig → Prop
  | .ret _, s => P s
  | .tch g K, s => P s ∧ all P (K (g s).1) (g s).2
  | .lk n K, s => all P (K (rcOf s.rs n)) s
theorem all_nrm {P : Sig → Prop} {t : Tr α} {s : Sig} (h : all P t s) : all P (nrm t s) s := by
  induction t with
  | ret v => exact h
  | tch g K ih => exact h
  | lk n K ih => exact ih _ h
theorem all.now {P : Sig → Prop} {t : Tr α} {s : Sig} (h : all P t s) : P s := by
  induction t with
  | ret v => exact h
  | tch g K ih => exact h.1
  | lk n K ih => exact ih _ h
theorem all_bind {P : Sig → Prop} (t : Tr α) (K : α → Tr β) (s : Sig) (h : all P t s) (hK : all P (K (ev t s).1) (ev t s).2.1) : all P (t.bind K) s := by
  induction t generalizing s with
  | ret v => exact hK
  | tch g K' ih => exact ⟨h.1, ih _ _ h.2 hK⟩
  | lk n K' ih => exact ih _ _ h hK
end

/-! What each touch makes of what all share. -/
def Sig.ep (s : Sig) (S : List Tq) : Sig := { s with S := S }
def gNow (s : Sig) : Int × Sig := (s.now, s)
def setSaid (S : List Tq) (i : Nat) (z : Int) : List Tq := match S[i]? with
  | some x => S.set i (z, x.2)
  | none => S
def gSay (i : Nat) (z : Int) (s : Sig) : Int × Sig := (0, { s with S := setSaid s.S i z })
def saidOf (S : List Tq) (i : Nat) : Int := match S[i]? with
  | some x => x.1
  | none => -1
def gSaid (i : Nat) (s : Sig) : Int × Sig := (saidOf s.S i, s)
def gSwap (n : Int) (s : Sig) : Int × Sig := if s.now = n then (1, { s with now := n + 1 }) else (0, s)
/-- The place of a right reference. -/
def As.hit (S : As) (r : Int) : Option (Nat × Pa) := match S.pls[(pl r).toNat]? with
  | some p => if p.used = true ∧ Go.Proofs.Ytmhmgdpcibldlaa.mk ((pl r).toNat : Int) p.cnt = r then some ((pl r).toNat, p) else none
  | none => none
def As.drop (S : As) (r : Int) : Int × As := match S.hit r with
  | some (i, p) => (1, S.free i p)
  | none => (0, S.fault)
def As.room (S : As) : Prop := (S.pls.length : Int) - (S.fr.length : Int) < (S.most : Int)
instance (S : As) : Decidable S.room := by unfold As.room; infer_instance
/-- The count of the place that is used next. -/
def As.cntN (S : As) : Nat := match S.next.2.pls[S.next.1]? with
  | some p => p.cnt
  | none => 0
def As.make (S : As) (nd : Nd) : Int × As := if S.room then (Go.Proofs.Ytmhmgdpcibldlaa.mk S.next.1 ((S.cntN + 1 : Nat) : Int), S.alloc (S.cntN + 1) nd) else (0, S)
def gMake (nd : Nd) (s : Sig) : Int × Sig := ((s.ar.make nd).1, { s with ar := (s.ar.make nd).2 })
def gFree (r : Int) (s : Sig) : Int × Sig := ((s.ar.drop r).1, { s with ar := (s.ar.drop r).2 })
def gRdy (i : Nat) (n : Int) (s : Sig) : Int × Sig := match s.S[i]? with
  | some (y, p :: q) => if rdy p.2 n = true then (p.1, { s with S := s.S.set i (y, q) }) else (0, s)
  | _ => (0, s)
def gReady (i : Nat) (n : Int) (s : Sig) : Int × Sig := ((gRdy i n s).1, if (gRdy i n s).1 = 0 then (gRdy i n s).2 else (gFree (gRdy i n s).1 (gRdy i n s).2).2)
def gLeave (i : Nat) (r n : Int) (s : Sig) : Int × Sig := (0, { s with S := match s.S[i]? with
  | some (y, q) => s.S.set i (y, q ++ [(r, n)])
  | none => s.S })

/-- A place that a right reference is of, changed; else a fault. -/
def As.with (S : As) (r : Int) (f : Nat → Pa → Int × As) : Int × As := match S.hit r with
  | some (i, p) => f i p
  | none => (0, S.fault)
def As.put (S : As) (i : Nat) (p : Pa) : As := { S with pls := S.pls.set i p }
def gAr (s : Sig) (x : Int × As) : Int × Sig := (x.1, { s with ar := x.2 })
def gSwapInfo (r o n : Int) (s : Sig) : Int × Sig := gAr s (s.ar.with r fun i p => if p.info = o then (1, s.ar.put i { p with info := n }) else (0, s.ar))
def gInfo (r : Int) (s : Sig) : Int × Sig := gAr s (s.ar.with r fun i p => (p.info, s.ar))
def gSetMark (r : Int) (s : Sig) : Int × Sig := gAr s (0, (s.ar.with r fun i p => (0, s.ar.put i { p with mark := true })).2)
def gSwapWay (r k o n : Int) (s : Sig) : Int × Sig := gAr s (s.ar.with r fun i p => if hasB p.ws.length k = true ∧ wayAt p k = o then (1, s.ar.put i { p with ws := p.ws.set k.toNat n }) else (0, s.ar))
def setRe (l : List Re) (n : Int) (f : Re → Re) : List Re := match rcAt l n with
  | some (i, x) => l.set i (f x)
  | none => l
def gAll (n : Int) (s : Sig) : Int × Sig := ((match rcAt s.rs n with | some (_, x) => b2i x.all | none => 0), s)
def gSetAll (n : Int) (s : Sig) : Int × Sig := (0, { s with rs := setRe s.rs n fun x => { x with all := true } })
def gSet (n t : Int) (s : Sig) : Int × Sig := (0, { s with rs := setRe s.rs n fun x => { x with st := t } })

/-! The calls. -/
def tDo (g : Sig → Int × Sig) : Tr Int := .tch g .ret
def tAll (now : Int) : Nat → Nat → Tr Bool
  | 0, _ => .ret true
  | r + 1, i => .tch (gSaid i) fun z => if z ≠ now ∧ z ≠ -1 then .ret false else tAll now r (i + 1)
def tFree (i : Nat) (n : Int) : Nat → Tr Unit
  | 0 => .ret ()
  | N + 1 => .tch (gReady i n) fun z => if z = 0 then .ret () else tFree i n N
def tSwap (b : Bool) (now : Int) : Tr Unit := if b = true then .tch (gSwap now) fun _ => .ret () else .ret ()
def tBegin (N L i : Nat) : Tr Unit := .tch gNow fun now => .tch (gSay i now) fun _ => (tAll now L 0).bind fun b => (tSwap b now).bind fun _ => .tch gNow fun n => tFree i n N
def tEnd (i : Nat) : Tr Unit := .tch (gSay i (-1)) fun _ => .ret ()
def tDrop : List Int → Tr Unit
  | [] => .ret ()
  | r :: l => if r = 0 then tDrop l else .tch (gFree r) fun _ => tDrop l
def tLeave (i : Nat) : List Int → Tr Unit
  | [] => .ret ()
  | r :: l => .tch gNow fun n => .tch (gLeave i r n) fun _ => tLeave i l
end Go.Proofs.Ytmhmgdpcibldlaa
