/-
  Touches as trees; the touches of a record.
-/
import Derived.Test.YtcegianjpifnbaaGreatPa
import Derived.Test.YtcegianjpifnbaaGreatPb
import Derived.Test.YtcegianjpifnbaaGreatPc
import Derived.Test.YtcegianjpifnbaaGreatPd
namespace Go.Proofs.YtcegianjpifnbaaGreat
set_option linter.unusedVariables false
set_option maxRecDepth 20000

/-- A record as plain data: what it is, its state, whether all is set. -/
structure Re where
  rc : Rc
  st : Int
  all : Bool
/-- What all share: the arena, the epoch, what each thread announced and let go, the records. -/
structure Sig where
  ar : As
  now : Int
  S : List Tq
  rs : List Re

/-- Where a record stands, by its number. -/
def rcAt (l : List Re) (n : Int) : Option (Nat × Re) := if n < 1 then none else match l[(n - 1).toNat]? with
  | some x => some ((n - 1).toNat, x)
  | none => none
/-- What a record is; nothing, if the number is none's. -/
def rcOf (l : List Re) (n : Int) : Rc := match rcAt l n with
  | some (_, x) => x.rc
  | none => Rc.nil
/-- There is a record of that number. -/
def has (s : Sig) (n : Int) : Prop := rcAt s.rs n ≠ none
/-- An operation: its answer; a touch, and what follows for each number that the touch tells; a look at a record. -/
inductive Tr (α : Type) where
  | ret (v : α)
  | tch (g : Sig → Int × Sig) (K : Int → Tr α)
  | lk (n : Int) (K : Rc → Tr α)
def Tr.bind {α β : Type} : Tr α → (α → Tr β) → Tr β
  | .ret v, k => k v
  | .tch g K, k => .tch g fun z => (K z).bind k
  | .lk n K, k => .lk n fun r => (K r).bind k
/-- How far a thread is: what was told, how many touches, how many of these work has come by, whether this Step's touch is still to come. -/
structure Cur where
  zs : List Int
  st : Nat
  k : Nat
  live : Bool
def Cur.ok (c : Cur) : Prop := (c.live = true → c.k ≤ c.zs.length) ∧ (c.live = false → c.k = c.zs.length)
inductive Out (α : Type) where
  | ret (v : α) (c : Cur) (s : Sig)
  | wait (zs : List Int) (st : Nat) (s : Sig)
/-- Gone through from where c is. -/
def run {α : Type} : Tr α → Cur → Sig → Out α
  | .ret v, c, s => .ret v c s
  | .tch g K, c, s =>
    if c.live = true then
      if c.k < c.zs.length then run (K (c.zs.getD c.k 0)) { c with k := c.k + 1 } s
      else run (K (g s).1) ⟨c.zs ++ [(g s).1], c.st + 1, c.k + 1, false⟩ (g s).2
    else .wait c.zs c.st s
  | .lk n K, c, s => run (K (rcOf s.rs n)) c s
def Out.bind {α β : Type} : Out α → (α → Cur → Sig → Out β) → Out β
  | .ret v c s, k => k v c s
  | .wait zs st s, _ => .wait zs st s
section
variable {α β γ : Type}
theorem run_bind (t : Tr α) (K : α → Tr β) (c : Cur) (s : Sig) : run (t.bind K) c s = (run t c s).bind fun v c s => run (K v) c s := by
  induction t generalizing c s with
  | ret v => rfl
  | tch g K' ih =>
    simp only [Tr.bind, run]
    split
    · split
      · exact ih _ _ _
      · exact ih _ _ _
    · rfl
  | lk n K' ih => exact ih _ _ _
theorem Tr.bind_ret (t : Tr α) : t.bind .ret = t := by
  induction t with
  | ret v => rfl
  | tch g K ih => simp only [Tr.bind]; congr 1; funext z; exact ih z
  | lk n K ih => simp only [Tr.bind]; congr 1; funext z; exact ih z
theorem Tr.bind_bind (t : Tr α) (f : α → Tr β) (h : β → Tr γ) : (t.bind f).bind h = t.bind fun v => (f v).bind h := by
  induction t with
  | ret v => rfl
  | tch g K ih => simp only [Tr.bind]; congr 1; funext z; exact ih z
  | lk n K ih => simp only [Tr.bind]; congr 1; funext z; exact ih z
theorem run_replay (g : Sig → Int × Sig) (K : Int → Tr α) (zs : List Int) (st k : Nat) (s : Sig) (hk : k < zs.length) : run (.tch g K) ⟨zs, st, k, true⟩ s = run (K (zs.getD k 0)) ⟨zs, st, k + 1, true⟩ s := by
  simp only [run, if_true]; rw [if_pos hk]
theorem run_fresh (g : Sig → Int × Sig) (K : Int → Tr α) (zs : List Int) (st k : Nat) (s : Sig) (hk : k = zs.length) : run (.tch g K) ⟨zs, st, k, true⟩ s = run (K (g s).1) ⟨zs ++ [(g s).1], st + 1, k + 1, false⟩ (g s).2 := by
  simp only [run, if_true]; rw [if_neg (by omega)]
theorem run_wait (g : Sig → Int × Sig) (K : Int → Tr α) (zs : List Int) (st k : Nat) (s : Sig) : run (.tch g K) ⟨zs, st, k, false⟩ s = .wait zs st s := by
  simp [run]

/-- What comes first: an answer, or a touch; looks ahead of it are done. -/
def nrm : Tr α → Sig → Tr α
  | .ret v, _ => .ret v
  | .tch g K, _ => .tch g K
  | .lk n K, s => nrm (K (rcOf s.rs n)) s
/-- What is looked at ahead of the next touch is there. -/
def hd : Tr α → Sig → Prop
  | .ret _, _ => True
  | .tch _ _, _ => True
  | .lk n K, s => has s n ∧ hd (K (rcOf s.rs n)) s
/-- What is left of an operation that was told zs. -/
def res : Tr α → List Int → Sig → Tr α
  | t, [], s => nrm t s
  | .ret v, _ :: _, _ => .ret v
  | .tch _ K, z :: zs, s => res (K z) zs s
  | .lk n K, z :: zs, s => res (K (rcOf s.rs n)) (z :: zs) s
/-- It has a touch for each number of zs; the records that it looks at are there. -/
def path : Tr α → List Int → Sig → Prop
  | t, [], s => hd t s
  | .ret _, _ :: _, _ => False
  | .tch _ K, z :: zs, s => path (K z) zs s
  | .lk n K, z :: zs, s => has s n ∧ path (K (rcOf s.rs n)) (z :: zs) s
/-- Later: the records that there were are as they were. -/
def Le (s s' : Sig) : Prop := ∀ n, has s n → has s' n ∧ rcOf s'.rs n = rcOf s.rs n
theorem Le.refl (s : Sig) : Le s s := fun n h => ⟨h, rfl⟩
theorem Le.trans {s s' s2 : Sig} (h : Le s s') (k : Le s' s2) : Le s s2 := fun n e => ⟨(k n (h n e).1).1, (k n (h n e).1).2.trans (h n e).2⟩
theorem hd_le {t : Tr α} {s s' : Sig} (h : hd t s) (hl : Le s s') : hd t s' ∧ nrm t s' = nrm t s := by
  induction t with
  | ret v => exact ⟨trivial, rfl⟩
  | tch g K ih => exact ⟨trivial, rfl⟩
  | lk n K ih =>
    obtain ⟨h1, h2⟩ := h
    obtain ⟨k1, k2⟩ := hl n h1
    have := ih _ h2
    refine ⟨⟨k1, ?_⟩, ?_⟩
    · rw [k2]; exact this.1
    · show nrm (K (rcOf s'.rs n)) s' = nrm (K (rcOf s.rs n)) s; rw [k2]; exact this.2
theorem path_le {t : Tr α} {zs : List Int} {s s' : Sig} (h : path t zs s) (hl : Le s s') : path t zs s' ∧ res t zs s' = res t zs s := by
  induction t generalizing zs with
  | ret v => cases zs with
    | nil => exact ⟨trivial, rfl⟩
    | cons z zs => exact h.elim
  | tch g K ih => cases zs with
    | nil => exact ⟨trivial, rfl⟩
    | cons z zs => exact ih z h
  | lk n K ih => cases zs with
    | nil => exact hd_le (t := .lk n K) h hl
    | cons z zs =>
      obtain ⟨h1, h2⟩ := h
      obtain ⟨k1, k2⟩ := hl n h1
      have := ih _ h2
      refine ⟨⟨k1, ?_⟩, ?_⟩
      · rw [k2]; exact this.1
      · show res (K (rcOf s'.rs n)) (z :: zs) s' = res (K (rcOf s.rs n)) (z :: zs) s; rw [k2]; exact this.2
/-- No look stands first. -/
def nl : Tr α → Prop
  | .lk _ _ => False
  | _ => True
theorem nl_nrm (t : Tr α) (s : Sig) : nl (nrm t s) := by
  induction t with
  | ret v => exact trivial
  | tch g K ih => exact trivial
  | lk n K ih => exact ih _
theorem nrm_nl {t : Tr α} (h : nl t) (s : Sig) : nrm t s = t := by
  cases t with
  | ret v => rfl
  | tch g K => rfl
  | lk n K => exact h.elim
theorem nl_res (t : Tr α) (zs : List Int) (s : Sig) : nl (res t zs s) := by
  induction t generalizing zs with
  | ret v => cases zs <;> exact trivial
  | tch g K ih => cases zs with
    | nil => exact trivial
    | cons z zs => exact ih z zs
  | lk n K ih => cases zs with
    | nil => exact nl_nrm (.lk n K) s
    | cons z zs => exact ih _ _
theorem run_nrm (t : Tr α) (c : Cur) (s : Sig) : run t c s = run (nrm t s) c s := by
  induction t with
  | ret v => rfl
  | tch g K ih => rfl
  | lk n K ih => exact ih _
theorem run_path (t : Tr α) (zs : List Int) (st k : Nat) (s : Sig) (hp : path t (zs.drop k) s) (hk : k ≤ zs.length) : run t ⟨zs, st, k, true⟩ s = run (res t (zs.drop k) s) ⟨zs, st, zs.length, true⟩ s := by
  induction t generalizing k with
  | ret v =>
    cases h : zs.drop k with
    | nil =>
      have : k = zs.length := by have := List.drop_eq_nil_iff.1 h; omega
      subst this; rfl
    | cons z l => rw [h] at hp; exact hp.elim
  | tch g K ih =>
    cases h : zs.drop k with
    | nil =>
      have : k = zs.length := by have := List.drop_eq_nil_iff.1 h; omega
      subst this; rfl
    | cons z l =>
      have hlt : k < zs.length := by
        by_cases hh : k < zs.length
        · exact hh
        · rw [List.drop_eq_nil_of_le (by omega)] at h; cases h
      have hd := List.drop_eq_getElem_cons hlt
      rw [h] at hd
      injection hd with h1 h2
      rw [h] at hp
      rw [run_replay _ _ _ _ _ _ hlt, show zs.getD k 0 = z from by rw [h1]; simp [List.getD, hlt]]
      rw [ih z (k + 1) (by rw [← h2]; exact hp) (by omega), ← h2]
      rfl
  | lk n K ih =>
    cases h : zs.drop k with
    | nil =>
      have : k = zs.length := by have := List.drop_eq_nil_iff.1 h; omega
      subst this; exact run_nrm _ _ _
    | cons z l =>
      rw [h] at hp
      have := ih (rcOf s.rs n) k (by rw [h]; exact hp.2) hk
      rw [h] at this
      exact this
theorem path_snoc {t : Tr α} {zs : List Int} {s s' : Sig} {g : Sig → Int × Sig} {K : Int → Tr α} (hp : path t zs s) (hr : res t zs s = .tch g K) (z : Int) (hl : Le s s') (hh : hd (K z) s') : path t (zs ++ [z]) s' ∧ res t (zs ++ [z]) s' = nrm (K z) s' := by
  have key : ∀ t : Tr α, nrm t s = .tch g K → hd t s → path t [z] s' ∧ res t [z] s' = nrm (K z) s' := by
    intro t
    induction t with
    | ret v => intro h; cases h
    | tch g' K' ih => intro h _; injection h with h1 h2; subst h2; exact ⟨by simpa [path] using hh, by simp [res]⟩
    | lk n K' ih =>
      intro h h2
      obtain ⟨k1, k2⟩ := hl n h2.1
      have := ih _ h h2.2
      refine ⟨⟨k1, ?_⟩, ?_⟩
      · rw [k2]; exact this.1
      · show res (K' (rcOf s'.rs n)) [z] s' = _; rw [k2]; exact this.2
  induction t generalizing zs with
  | ret v => cases zs with
    | nil => cases hr
    | cons y zs => exact hp.elim
  | tch g' K' ih => cases zs with
    | nil => exact key _ hr hp
    | cons y zs => exact ih y hp hr
  | lk n K' ih => cases zs with
    | nil => exact key _ hr hp
    | cons y zs =>
      obtain ⟨k1, k2⟩ := hl n hp.1
      have := ih _ hp.2 hr
      refine ⟨⟨k1, ?_⟩, ?_⟩
      · rw [k2]; exact this.1
      · show res (K' (rcOf s'.rs n)) (y :: (zs ++ [z])) s' = _; rw [k2]; exact this.2
/-- A Step of what is left: the end, or more. -/
inductive Stp (α : Type) where
  | done (v : α) (s : Sig)
  | more (z : Int) (s : Sig)
def stp : Tr α → Sig → Stp α
  | .ret v, s => .done v s
  | .tch g K, s => match nrm (K (g s).1) (g s).2 with
    | .ret v => .done v (g s).2
    | _ => .more (g s).1 (g s).2
  | .lk _ _, s => .more 0 s
/-- A Step, gone through from the beginning. -/
theorem run_stp (t : Tr α) (zs : List Int) (st : Nat) (s : Sig) (hp : path t zs s) : (∃ v c s', run t ⟨zs, st, 0, true⟩ s = .ret v c s' ∧ stp (res t zs s) s = .done v s') ∨ (∃ z s', run t ⟨zs, st, 0, true⟩ s = .wait (zs ++ [z]) (st + 1) s' ∧ stp (res t zs s) s = .more z s') := by
  rw [run_path t zs st 0 s (by simpa using hp) (by omega), List.drop_zero]
  have hn := nl_res t zs s
  cases h : res t zs s with
  | ret v => exact .inl ⟨v, _, _, rfl, rfl⟩
  | lk n K => rw [h] at hn; exact hn.elim
  | tch g K =>
    rw [run_fresh _ _ _ _ _ _ rfl, run_nrm]
    simp only [stp]
    have hn2 := nl_nrm (K (g s).1) (g s).2
    cases h2 : nrm (K (g s).1) (g s).2 with
    | ret v => exact .inl ⟨v, _, _, rfl, rfl⟩
    | tch g' K' => exact .inr ⟨_, _, run_wait _ _ _ _ _ _, rfl⟩
    | lk n K' => rw [h2] at hn2; exact hn2.elim
/-- Alone: its answer, what all share behind it, how many touches it took. -/
def ev : Tr α → Sig → α × Sig × Nat
  | .ret v, s => (v, s, 0)
  | .tch g K, s => ((ev (K (g s).1) (g s).2).1, (ev (K (g s).1) (g s).2).2.1, (ev (K (g s).1) (g s).2).2.2 + 1)
  | .lk n K, s => ev (K (rcOf s.rs n)) s
theorem ev_nrm (t : Tr α) (s : Sig) : ev t s = ev (nrm t s) s := by
  induction t with
  | ret v => rfl
  | tch g K ih => rfl
  | lk n K ih => exact ih _
theorem ev_bind (t : Tr α) (K : α → Tr β) (s : Sig) : ev (t.bind K) s = ((ev (K (ev t s).1) (ev t s).2.1).1, (ev (K (ev t s).1) (ev t s).2.1).2.1, (ev t s).2.2 + (ev (K (ev t s).1) (ev t s).2.1).2.2) := by
  induction t generalizing s with
  | ret v => simp [Tr.bind, ev]
  | tch g K' ih => simp only [Tr.bind, ev, ih]; congr 2; omega
  | lk n K' ih => exact ih _ _
/-- What holds of all that is shared, all along, of an operation that goes on alone. -/
def all (P : Sig → Prop) : Tr α → Sig → Prop
  | .ret _, s => P s
  | .tch g K, s => P s ∧ all P (K (g s).1) (g s).2
  | .lk n K, s => all P (K (rcOf s.rs n)) s
theorem all_nrm {P : Sig → Prop} {t : Tr α} {s : Sig} (h : all P t s) : all P (nrm t s) s := by
  induction t with
  | ret v => exact h
  | tch g K ih => exact h
  | lk n K ih => exact ih _ h
theorem all.now {P : Sig → Prop} {t : Tr α} {s : Sig} (h : all P t s) : P s := by
  induction t with
  | ret v => exact h
  | tch g K ih => exact h.1
  | lk n K ih => exact ih _ h
theorem all_bind {P : Sig → Prop} (t : Tr α) (K : α → Tr β) (s : Sig) (h : all P t s) (hK : all P (K (ev t s).1) (ev t s).2.1) : all P (t.bind K) s := by
  induction t generalizing s with
  | ret v => exact hK
  | tch g K' ih => exact ⟨h.1, ih _ _ h.2 hK⟩
  | lk n K' ih => exact ih _ _ h hK
end

/-! What each touch makes of what all share. -/
def Sig.ep (s : Sig) (S : List Tq) : Sig := { s with S := S }
def gNow (s : Sig) : Int × Sig := (s.now, s)
def setSaid (S : List Tq) (i : Nat) (z : Int) : List Tq := match S[i]? with
  | some x => S.set i (z, x.2)
  | none => S
def gSay (i : Nat) (z : Int) (s : Sig) : Int × Sig := (0, { s with S := setSaid s.S i z })
def saidOf (S : List Tq) (i : Nat) : Int := match S[i]? with
  | some x => x.1
  | none => -1
def gSaid (i : Nat) (s : Sig) : Int × Sig := (saidOf s.S i, s)
def gSwap (n : Int) (s : Sig) : Int × Sig := if s.now = n then (1, { s with now := n + 1 }) else (0, s)
/-- The place of a right reference. -/
def As.hit (S : As) (r : Int) : Option (Nat × Pa) := match S.pls[(pl r).toNat]? with
  | some p => if p.used = true ∧ Go.Proofs.YtcegianjpifnbaaGreat.mk ((pl r).toNat : Int) p.cnt = r then some ((pl r).toNat, p) else none
  | none => none
def As.drop (S : As) (r : Int) : Int × As := match S.hit r with
  | some (i, p) => (1, S.free i p)
  | none => (0, S.fault)
def As.room (S : As) : Prop := (S.pls.length : Int) - (S.fr.length : Int) < (S.most : Int)
instance (S : As) : Decidable S.room := by unfold As.room; infer_instance
/-- The count of the place that is used next. -/
def As.cntN (S : As) : Nat := match S.next.2.pls[S.next.1]? with
  | some p => p.cnt
  | none => 0
def As.make (S : As) (nd : Nd) : Int × As := if S.room then (Go.Proofs.YtcegianjpifnbaaGreat.mk S.next.1 ((S.cntN + 1 : Nat) : Int), S.alloc (S.cntN + 1) nd) else (0, S)
def gMake (nd : Nd) (s : Sig) : Int × Sig := ((s.ar.make nd).1, { s with ar := (s.ar.make nd).2 })
def gFree (r : Int) (s : Sig) : Int × Sig := ((s.ar.drop r).1, { s with ar := (s.ar.drop r).2 })
def gRdy (i : Nat) (n : Int) (s : Sig) : Int × Sig := match s.S[i]? with
  | some (y, p :: q) => if rdy p.2 n = true then (p.1, { s with S := s.S.set i (y, q) }) else (0, s)
  | _ => (0, s)
def gReady (i : Nat) (n : Int) (s : Sig) : Int × Sig := ((gRdy i n s).1, if (gRdy i n s).1 = 0 then (gRdy i n s).2 else (gFree (gRdy i n s).1 (gRdy i n s).2).2)
def gLeave (i : Nat) (r n : Int) (s : Sig) : Int × Sig := (0, { s with S := match s.S[i]? with
  | some (y, q) => s.S.set i (y, q ++ [(r, n)])
  | none => s.S })

/-- A place that a right reference is of, changed; else a fault. -/
def As.with (S : As) (r : Int) (f : Nat → Pa → Int × As) : Int × As := match S.hit r with
  | some (i, p) => f i p
  | none => (0, S.fault)
def As.put (S : As) (i : Nat) (p : Pa) : As := { S with pls := S.pls.set i p }
def gAr (s : Sig) (x : Int × As) : Int × Sig := (x.1, { s with ar := x.2 })
def gSwapInfo (r o n : Int) (s : Sig) : Int × Sig := gAr s (s.ar.with r fun i p => if p.info = o then (1, s.ar.put i { p with info := n }) else (0, s.ar))
def gInfo (r : Int) (s : Sig) : Int × Sig := gAr s (s.ar.with r fun i p => (p.info, s.ar))
def gSetMark (r : Int) (s : Sig) : Int × Sig := gAr s (0, (s.ar.with r fun i p => (0, s.ar.put i { p with mark := true })).2)
def gSwapWay (r k o n : Int) (s : Sig) : Int × Sig := gAr s (s.ar.with r fun i p => if hasB p.ws.length k = true ∧ wayAt p k = o then (1, s.ar.put i { p with ws := p.ws.set k.toNat n }) else (0, s.ar))
def setRe (l : List Re) (n : Int) (f : Re → Re) : List Re := match rcAt l n with
  | some (i, x) => l.set i (f x)
  | none => l
def gAll (n : Int) (s : Sig) : Int × Sig := ((match rcAt s.rs n with | some (_, x) => b2i x.all | none => 0), s)
def gSetAll (n : Int) (s : Sig) : Int × Sig := (0, { s with rs := setRe s.rs n fun x => { x with all := true } })
def gSet (n t : Int) (s : Sig) : Int × Sig := (0, { s with rs := setRe s.rs n fun x => { x with st := t } })

/-! The calls. -/
def tDo (g : Sig → Int × Sig) : Tr Int := .tch g .ret
def tAll (now : Int) : Nat → Nat → Tr Bool
  | 0, _ => .ret true
  | r + 1, i => .tch (gSaid i) fun z => if z ≠ now ∧ z ≠ -1 then .ret false else tAll now r (i + 1)
def tFree (i : Nat) (n : Int) : Nat → Tr Unit
  | 0 => .ret ()
  | N + 1 => .tch (gReady i n) fun z => if z = 0 then .ret () else tFree i n N
def tSwap (b : Bool) (now : Int) : Tr Unit := if b = true then .tch (gSwap now) fun _ => .ret () else .ret ()
def tBegin (N L i : Nat) : Tr Unit := .tch gNow fun now => .tch (gSay i now) fun _ => (tAll now L 0).bind fun b => (tSwap b now).bind fun _ => .tch gNow fun n => tFree i n N
def tEnd (i : Nat) : Tr Unit := .tch (gSay i (-1)) fun _ => .ret ()
def tDrop : List Int → Tr Unit
  | [] => .ret ()
  | r :: l => if r = 0 then tDrop l else .tch (gFree r) fun _ => tDrop l
def tLeave (i : Nat) : List Int → Tr Unit
  | [] => .ret ()
  | r :: l => .tch gNow fun n => .tch (gLeave i r n) fun _ => tLeave i l
end Go.Proofs.YtcegianjpifnbaaGreat
namespace Go.Proofs.YtcegianjpifnbaaGreat
open Go.ChangeShapes Go.WideShapes Go.ChangeAt Go.RowKit
set_option linter.unusedVariables false
set_option linter.unusedSimpArgs false
set_option maxRecDepth 20000

abbrev woT : TypeId := 55
abbrev tbT : TypeId := 82
/-- Where a world lies: itself, its arena, records, epochs; its numbers. -/
structure Wd where
  W : Nat
  A : Nat
  R : Nat
  E : Nat
  a : Int
  b : Int
  en : Int
  m : Nat
def It.re (x : It) : Re := ⟨x.rc, x.st, x.all⟩
/-- A table of records, as plain data. -/
def TbS (F : Nat → Prop) (w : World) (a m : Nat) (rs : List Re) : Prop := ∃ l P, Tb F w a m l P ∧ l.map It.re = rs
/-- Behind a call: the table is so, and nothing else has changed. -/
def NxT (F : Nat → Prop) (w : World) (a m : Nat) (rs : List Re) (w' : World) : Prop := ∃ F', TbS F' w' a m rs ∧ Only F w w' ∧ ∀ b, F' b → F b ∨ w.heap.size ≤ b
/-- A world in memory: FW are its blocks. -/
structure WS (d : Wd) (FW : Nat → Prop) (w : World) (s : Sig) : Prop where
  head : w.heap[d.W]? = some (.cells #[ptr d.A, ptr d.R, ptr d.E, .int .i64 d.a, .int .i64 d.b, .int .i64 d.en] woT (0, 0))
  parts : ∃ FA FE FT, Arn false FA w d.A s.ar ∧ EpS FE w d.E s.now s.S ∧ TbS FT w d.R d.m s.rs ∧ (∀ b, FA b → ¬ FE b) ∧ (∀ b, FA b → ¬ FT b) ∧ (∀ b, FE b → ¬ FT b) ∧ (∀ b, FW b ↔ FA b ∨ FE b ∨ FT b ∨ b = d.W) ∧ ¬ FA d.W ∧ ¬ FE d.W ∧ ¬ FT d.W
/-- Behind a call: the world is so, and nothing else has changed. -/
def NxW (d : Wd) (FW : Nat → Prop) (w : World) (s : Sig) (w' : World) : Prop := ∃ FW', WS d FW' w' s ∧ Only FW w w' ∧ ∀ b, FW' b → FW b ∨ w.heap.size ≤ b
section
variable {d : Wd} {FW G : Nat → Prop} {w w' w2 : World} {s s' : Sig}
theorem Arn.keep {F : Nat → Prop} {a : Nat} {S : As} (h : Arn false F w a S) (hb : ∀ b, F b → w'.heap[b]? = w.heap[b]?) (hs : w.heap.size ≤ w'.heap.size) : Arn false F w' a S := by
  obtain ⟨l, P, Q, h⟩ := h; exact ⟨l, P, Q, h.keep hb hs⟩
theorem EpS.keep {F : Nat → Prop} {a : Nat} {now : Int} {S : List Tq} (h : EpS F w a now S) (hb : ∀ b, F b → w'.heap[b]? = w.heap[b]?) (hs : w.heap.size ≤ w'.heap.size) : EpS F w' a now S := by
  obtain ⟨l, T, h, e⟩ := h; exact ⟨l, T, h.keep hb hs, e⟩
theorem TbS.keep {F : Nat → Prop} {a m : Nat} {rs : List Re} (h : TbS F w a m rs) (hb : ∀ b, F b → w'.heap[b]? = w.heap[b]?) (hs : w.heap.size ≤ w'.heap.size) : TbS F w' a m rs := by
  obtain ⟨l, P, h, e⟩ := h; exact ⟨l, P, h.keep hb hs, e⟩
theorem TbS.lt {F : Nat → Prop} {a m : Nat} {rs : List Re} (h : TbS F w a m rs) : ∀ b, F b → b < w.heap.size := by
  obtain ⟨l, P, h, e⟩ := h; exact h.its.lt
theorem TbS.only {F G : Nat → Prop} {a m : Nat} {rs : List Re} (h : TbS F w a m rs) (hb : Only G w w') (hd : ∀ b, F b → ¬ G b) : TbS F w' a m rs := h.keep (fun b hF => hb.block b (h.lt b hF) (hd b hF)) hb.size
theorem WS.fW (h : WS d FW w s) : FW d.W := by obtain ⟨FA, FE, FT, _, _, _, _, _, _, hF, _⟩ := h.parts; exact (hF _).2 (.inr (.inr (.inr rfl)))
theorem WS.lt (h : WS d FW w s) : ∀ b, FW b → b < w.heap.size := by
  obtain ⟨FA, FE, FT, h1, h2, h3, _, _, _, hF, _⟩ := h.parts
  intro b e
  rcases (hF b).1 e with e | e | e | rfl
  · exact h1.lt b e
  · exact h2.lt b e
  · exact h3.lt b e
  · exact (Array.getElem?_eq_some_iff.1 h.head).1
theorem WS.keep (h : WS d FW w s) (hb : ∀ b, FW b → w'.heap[b]? = w.heap[b]?) (hs : w.heap.size ≤ w'.heap.size) : WS d FW w' s := by
  obtain ⟨FA, FE, FT, h1, h2, h3, h4, h5, h6, hF, h7⟩ := h.parts
  exact ⟨(hb _ h.fW).trans h.head, FA, FE, FT, h1.keep (fun b e => hb b ((hF b).2 (.inl e))) hs, h2.keep (fun b e => hb b ((hF b).2 (.inr (.inl e)))) hs, h3.keep (fun b e => hb b ((hF b).2 (.inr (.inr (.inl e))))) hs, h4, h5, h6, hF, h7⟩
theorem WS.only (h : WS d FW w s) (hb : Only G w w') (hd : ∀ b, FW b → ¬ G b) : WS d FW w' s := h.keep (fun b e => hb.block b (h.lt b e) (hd b e)) hb.size
theorem WS.below (h : WS d FW w s) (hb : Below w.heap.size w w') : WS d FW w' s := h.keep (fun b e => hb.block b (h.lt b e)) hb.size
theorem WS.cells (h : WS d FW w s) : w.cell? ⟨d.W, 0, none⟩ = some (ptr d.A) ∧ w.cell? ⟨d.W, 1, none⟩ = some (ptr d.R) ∧ w.cell? ⟨d.W, 2, none⟩ = some (ptr d.E) ∧ w.cell? ⟨d.W, 3, none⟩ = some (.int .i64 d.a) ∧ w.cell? ⟨d.W, 4, none⟩ = some (.int .i64 d.b) ∧ w.cell? ⟨d.W, 5, none⟩ = some (.int .i64 d.en) := by
  refine ⟨?_, ?_, ?_, ?_, ?_, ?_⟩ <;> (rw [cell_of_row w d.W _ _ _ (0, 0) h.head]; rfl)
/-- Its arena, and what a call of the arena makes of the world. -/
theorem WS.ar (h : WS d FW w s) : ∃ FA, Arn false FA w d.A s.ar ∧ (∀ b, FA b → FW b) ∧ ∀ S' w', Nx false FA w d.A S' w' → NxW d FW w { s with ar := S' } w' := by
  obtain ⟨FA, FE, FT, h1, h2, h3, n1, n2, n3, hF, m1, m2, m3⟩ := h.parts
  refine ⟨FA, h1, fun b e => (hF b).2 (.inl e), ?_⟩
  rintro S' w' ⟨F', k1, k2, k3⟩
  have hlW := (Array.getElem?_eq_some_iff.1 h.head).1
  refine ⟨fun b => F' b ∨ FE b ∨ FT b ∨ b = d.W, ⟨(k2.block _ hlW m1).trans h.head, F', FE, FT, k1, h2.only k2 (fun b e e' => n1 b e' e), h3.only k2 (fun b e e' => n2 b e' e), ?_, ?_, n3, fun _ => Iff.rfl, ?_, m2, m3⟩, k2.mono fun b e => (hF b).2 (.inl e), ?_⟩
  · intro b e e'
    rcases k3 b e with e | e
    · exact n1 b e e'
    · have := h2.lt b e'; omega
  · intro b e e'
    rcases k3 b e with e | e
    · exact n2 b e e'
    · have := h3.lt b e'; omega
  · intro e; rcases k3 _ e with e | e
    · exact m1 e
    · omega
  · rintro b (e | e)
    · exact (k3 b e).imp (fun e => (hF b).2 (.inl e)) id
    · exact .inl ((hF b).2 (.inr e))
/-- Its epochs, and what a call of the epochs makes of the world. -/
theorem WS.ep (h : WS d FW w s) : ∃ FE, EpS FE w d.E s.now s.S ∧ (∀ b, FE b → FW b) ∧ ∀ n S' w', NxE FE w d.E n S' w' → NxW d FW w { s with now := n, S := S' } w' := by
  obtain ⟨FA, FE, FT, h1, h2, h3, n1, n2, n3, hF, m1, m2, m3⟩ := h.parts
  refine ⟨FE, h2, fun b e => (hF b).2 (.inr (.inl e)), ?_⟩
  rintro n S' w' ⟨F', k1, k2, k3⟩
  have hlW := (Array.getElem?_eq_some_iff.1 h.head).1
  refine ⟨fun b => FA b ∨ F' b ∨ FT b ∨ b = d.W, ⟨(k2.block _ hlW m2).trans h.head, FA, F', FT, h1.only k2 n1, k1, h3.only k2 (fun b e e' => n3 b e' e), ?_, n2, ?_, fun _ => Iff.rfl, m1, ?_, m3⟩, k2.mono fun b e => (hF b).2 (.inr (.inl e)), ?_⟩
  · intro b e e'
    rcases k3 b e' with e' | e'
    · exact n1 b e e'
    · have := h1.lt b e; omega
  · intro b e e'
    rcases k3 b e with e | e
    · exact n3 b e e'
    · have := h3.lt b e'; omega
  · intro e; rcases k3 _ e with e | e
    · exact m2 e
    · omega
  · rintro b (e | e | e)
    · exact .inl ((hF b).2 (.inl e))
    · exact (k3 b e).imp (fun e => (hF b).2 (.inr (.inl e))) id
    · exact .inl ((hF b).2 (.inr (.inr e)))
/-- Its records, and what a call of the table makes of the world. -/
theorem WS.rc (h : WS d FW w s) : ∃ FT, TbS FT w d.R d.m s.rs ∧ (∀ b, FT b → FW b) ∧ ∀ rs' w', NxT FT w d.R d.m rs' w' → NxW d FW w { s with rs := rs' } w' := by
  obtain ⟨FA, FE, FT, h1, h2, h3, n1, n2, n3, hF, m1, m2, m3⟩ := h.parts
  refine ⟨FT, h3, fun b e => (hF b).2 (.inr (.inr (.inl e))), ?_⟩
  rintro rs' w' ⟨F', k1, k2, k3⟩
  have hlW := (Array.getElem?_eq_some_iff.1 h.head).1
  refine ⟨fun b => FA b ∨ FE b ∨ F' b ∨ b = d.W, ⟨(k2.block _ hlW m3).trans h.head, FA, FE, F', h1.only k2 n2, h2.only k2 n3, k1, n1, ?_, ?_, fun _ => Iff.rfl, m1, m2, ?_⟩, k2.mono fun b e => (hF b).2 (.inr (.inr (.inl e))), ?_⟩
  · intro b e e'
    rcases k3 b e' with e' | e'
    · exact n2 b e e'
    · have := h1.lt b e; omega
  · intro b e e'
    rcases k3 b e' with e' | e'
    · exact n3 b e e'
    · have := h2.lt b e; omega
  · intro e; rcases k3 _ e with e | e
    · exact m3 e
    · omega
  · rintro b (e | e | e | e)
    · exact .inl ((hF b).2 (.inl e))
    · exact .inl ((hF b).2 (.inr (.inl e)))
    · exact (k3 b e).imp (fun e => (hF b).2 (.inr (.inr (.inl e)))) id
    · exact .inl ((hF b).2 (.inr (.inr (.inr e))))
theorem NxW.same (h : WS d FW w s) : NxW d FW w s w := ⟨FW, h, Only.refl _ _, fun _ e => .inl e⟩
theorem NxW.of_below (h : WS d FW w s) (hb : Below w.heap.size w w') : NxW d FW w s w' := ⟨FW, h.below hb, Only.of_below FW hb, fun _ e => .inl e⟩
theorem NxW.after (hb : Below w.heap.size w w2) (h : NxW d FW w2 s w') : NxW d FW w s w' := by
  obtain ⟨F', h1, h2, h3⟩ := h
  exact ⟨F', h1, (Only.of_below FW hb).then h2, fun b e => (h3 b e).imp id (fun e => Nat.le_trans hb.size e)⟩
theorem NxW.then (h : NxW d FW w s w2) (hk : ∀ FW', WS d FW' w2 s → NxW d FW' w2 s' w') : NxW d FW w s' w' := by
  obtain ⟨F1, h1, h2, h3⟩ := h
  obtain ⟨F2, k1, k2, k3⟩ := hk F1 h1
  exact ⟨F2, k1, h2.trans k2 h3, fun b e => (k3 b e).elim (h3 b) fun e => .inr (Nat.le_trans h2.size e)⟩
end

/-- A number that an int64 can be. -/
def in64 (z : Int) : Prop := -9223372036854775808 ≤ z ∧ z ≤ 9223372036854775807
/-- Not too many records; each node's record is a number. -/
def RcOk (s : Sig) : Prop := s.rs.length ≤ 1000 ∧ ∀ p ∈ s.ar.pls, in64 p.info
/-- What is shared can be counted. -/
structure Fit (s : Sig) : Prop where
  ok : Ok s.ar
  fr : ∀ i ∈ s.ar.fr, i < s.ar.pls.length
  now : 0 ≤ s.now ∧ s.now ≤ 1000000
  len : s.S.length ≤ 64
  said : ∀ x ∈ s.S, in64 x.1
  que : ∀ x ∈ s.S, x.2.length ≤ 1000 ∧ ∀ p ∈ x.2, in64 p.1 ∧ in64 p.2
  rc : RcOk s

/-- Blocks of R stay as they are. -/
structure Kp (R : Nat → Prop) (w w' : World) : Prop where
  os : w'.os = w.os
  tape : w'.tape = w.tape
  output : w'.output = w.output
  size : w.heap.size ≤ w'.heap.size
  block : ∀ b, R b → w'.heap[b]? = w.heap[b]?
section
variable {R R' G : Nat → Prop} {w w' w2 : World}
theorem Kp.refl (R : Nat → Prop) (w : World) : Kp R w w := ⟨rfl, rfl, rfl, Nat.le_refl _, fun _ _ => rfl⟩
theorem Kp.trans (h : Kp R w w') (k : Kp R w' w2) : Kp R w w2 := ⟨k.os.trans h.os, k.tape.trans h.tape, k.output.trans h.output, Nat.le_trans h.size k.size, fun b e => (k.block b e).trans (h.block b e)⟩
theorem Kp.mono (h : Kp R w w') (hs : ∀ b, R' b → R b) : Kp R' w w' := ⟨h.os, h.tape, h.output, h.size, fun b e => h.block b (hs b e)⟩
theorem Kp.only (h : Only G w w') (hR : ∀ b, R b → b < w.heap.size ∧ ¬ G b) : Kp R w w' := ⟨h.os, h.tape, h.output, h.size, fun b e => h.block b (hR b e).1 (hR b e).2⟩
theorem Kp.below (h : Below w.heap.size w w') (hR : ∀ b, R b → b < w.heap.size) : Kp R w w' := ⟨h.os, h.tape, h.output, h.size, fun b e => h.block b (hR b e)⟩
theorem Kp.cell (h : Kp R w w') {p : Addr} (hp : R p.block) : w'.cell? p = w.cell? p := by unfold World.cell?; rw [h.block _ hp]
theorem Kp.read (h : Kp R w w') {p : Addr} {v : Value} (hp : R p.block) (hc : w.cell? p = some v) : w'.cell? p = some v := (h.cell hp).trans hc
end

/-- A thread at block a and the world beside it, apart from each other and from R. -/
def Lv0 (d : Wd) (R : Nat → Prop) (w : World) (a : Nat) (wk : Value) (zs : List Int) (st ph k : Nat) (s : Sig) : Prop :=
  ∃ F FW T, Th F w a wk zs st (.slice none 0 0) [] ph k T ∧ WS d FW w s ∧ (∀ b, F b → ¬ FW b) ∧ ∀ b, R b → b < w.heap.size ∧ ¬ F b ∧ ¬ FW b
def phOf (live : Bool) : Nat := if live then 1 else 3
/-- Gone through as far as c. -/
structure Lv (d : Wd) (R : Nat → Prop) (w : World) (a : Nat) (wk : Value) (c : Cur) (s : Sig) : Prop where
  lv : Lv0 d R w a wk c.zs c.st (phOf c.live) c.k s
  ok : c.ok
  few : c.zs.length + c.st ≤ (if c.live then 900 else 902)
  in64 : ∀ z ∈ c.zs, in64 z
  fit : c.live = true → Fit s
/-- It waits. -/
structure Wt (d : Wd) (R : Nat → Prop) (w : World) (a : Nat) (wk : Value) (zs : List Int) (st : Nat) (s : Sig) : Prop where
  lv : ∃ k, Lv0 d R w a wk zs st 4 k s
  in64 : ∀ z ∈ zs, in64 z
/-- What a call comes to. -/
def Post {α : Type} (d : Wd) (R : Nat → Prop) (w : World) (a : Nat) (wk : Value) (V : α → Value) (o : Out α) (e : Ending) (w' : World) : Prop :=
  Kp R w w' ∧ match o with
  | .ret v c s => e = .returned (V v) ∧ Lv d R w' a wk c s
  | .wait zs st s => e = .panicked waitE ∧ Wt d R w' a wk zs st s
section
variable {d : Wd} {R R' : Nat → Prop} {w w' w0 : World} {a st ph k : Nat} {wk : Value} {zs : List Int} {c : Cur} {s : Sig} {α β : Type} {V : α → Value}
theorem Lv0.below (h : Lv0 d R w a wk zs st ph k s) (hb : Below w.heap.size w w') : Lv0 d R w' a wk zs st ph k s := by
  obtain ⟨F, FW, T, h1, h2, h3, h4⟩ := h
  exact ⟨F, FW, T, h1.below hb, h2.below hb, h3, fun b e => ⟨Nat.lt_of_lt_of_le (h4 b e).1 hb.size, (h4 b e).2⟩⟩
theorem Lv0.mono (h : Lv0 d R w a wk zs st ph k s) (hs : ∀ b, R' b → R b) : Lv0 d R' w a wk zs st ph k s := by
  obtain ⟨F, FW, T, h1, h2, h3, h4⟩ := h
  exact ⟨F, FW, T, h1, h2, h3, fun b e => h4 b (hs b e)⟩
/-- Blocks that were made just now are nobody's. -/
theorem Lv0.more (h : Lv0 d R w a wk zs st ph k s) (hb : Below w.heap.size w w') (hs : ∀ b, R' b → R b ∨ (w.heap.size ≤ b ∧ b < w'.heap.size)) : Lv0 d R' w' a wk zs st ph k s := by
  obtain ⟨F, FW, T, h1, h2, h3, h4⟩ := h
  refine ⟨F, FW, T, h1.below hb, h2.below hb, h3, fun b e => ?_⟩
  rcases hs b e with e | e
  · exact ⟨Nat.lt_of_lt_of_le (h4 b e).1 hb.size, (h4 b e).2⟩
  · exact ⟨e.2, fun f => by have := h1.lt b f; omega, fun f => by have := h2.lt b f; omega⟩
theorem Lv0.lt (h : Lv0 d R w a wk zs st ph k s) : ∀ b, R b → b < w.heap.size := by
  obtain ⟨F, FW, T, h1, h2, h3, h4⟩ := h; exact fun b e => (h4 b e).1
theorem Lv.lt (h : Lv d R w a wk c s) : ∀ b, R b → b < w.heap.size := h.lv.lt
theorem Lv.mono (h : Lv d R w a wk c s) (hs : ∀ b, R' b → R b) : Lv d R' w a wk c s := ⟨h.lv.mono hs, h.ok, h.few, h.in64, h.fit⟩
theorem Lv.more (h : Lv d R w a wk c s) (hb : Below w.heap.size w w') (hs : ∀ b, R' b → R b ∨ (w.heap.size ≤ b ∧ b < w'.heap.size)) : Lv d R' w' a wk c s := ⟨h.lv.more hb hs, h.ok, h.few, h.in64, h.fit⟩
theorem Lv.below (h : Lv d R w a wk c s) (hb : Below w.heap.size w w') : Lv d R w' a wk c s := ⟨h.lv.below hb, h.ok, h.few, h.in64, h.fit⟩
theorem Wt.mono (h : Wt d R w a wk zs st s) (hs : ∀ b, R' b → R b) : Wt d R' w a wk zs st s := by
  obtain ⟨⟨k, h1⟩, h2⟩ := h
  exact ⟨⟨k, h1.mono hs⟩, h2⟩
theorem Post.mono {o : Out α} {e : Ending} (h : Post d R w a wk V o e w') (hs : ∀ b, R' b → R b) : Post d R' w a wk V o e w' := by
  cases o with
  | ret v c s => exact ⟨h.1.mono hs, h.2.1, h.2.2.mono hs⟩
  | wait zs st s => obtain ⟨h1, h2, h3⟩ := h; exact ⟨h1.mono hs, h2, h3.mono hs⟩
theorem Post.from_ {o : Out α} {e : Ending} (hk : Kp R w0 w) (h : Post d R w a wk V o e w') : Post d R w0 a wk V o e w' := ⟨hk.trans h.1, h.2⟩

/-- A touch, as the thread's Do does it: called without arguments it answers a number. -/
def Tou (d : Wd) (s : Sig) (R : Nat → Prop) (w : World) (f : Nat) (args : Array Value) (g : Sig → Int × Sig) : Prop :=
  ∀ w1 FW, WS d FW w1 s → (∀ b, R b → w1.heap[b]? = w.heap[b]? ∧ ¬ FW b) → w.heap.size ≤ w1.heap.size → Calls Tryz.prog f args w1 fun e w2 => e = .returned (.int .i64 (g s).1) ∧ NxW d FW w1 (g s).2 w2
abbrev intV (z : Int) : Value := .int .i64 z
theorem do_touch0 {g : Sig → Int × Sig} {fv : Value} (h : Lv d R w a wk c s) (hg : c.live = true → in64 (g s).1)
    (hre : ∀ (F : Nat → Prop) (T : Value), Th F w a wk c.zs c.st (.slice none 0 0) [] 1 c.k T → c.k < c.zs.length → c.zs.length ≤ 1000 → Calls Tryz.prog DO #[ptr a, fv] w fun e w' => e = .returned (.int .i64 (c.zs.getD c.k 0)) ∧ Th F w' a wk c.zs c.st (.slice none 0 0) [] 1 (c.k + 1) T ∧ Only (· = a) w w')
    (hwa : ∀ (F : Nat → Prop) (T : Value), Th F w a wk c.zs c.st (.slice none 0 0) [] 3 c.k T → c.k = c.zs.length → c.zs.length ≤ 1000 → Calls Tryz.prog DO #[ptr a, fv] w fun e w' => e = .panicked waitE ∧ Th F w' a wk c.zs c.st (.slice none 0 0) [] 4 c.k T ∧ Only (· = a) w w')
    (hfr : ∀ (F FW : Nat → Prop) (T : Value), c.live = true → Th F w a wk c.zs c.st (.slice none 0 0) [] 1 c.k T → c.k = c.zs.length → c.zs.length ≤ 900 → c.st ≤ 1000 → WS d FW w s → (∀ b, F b → ¬ FW b) → (∀ b, R b → b < w.heap.size ∧ ¬ F b ∧ ¬ FW b) →
      Calls Tryz.prog DO #[ptr a, fv] w fun e w' => ∃ z w2 F' T', e = .returned (.int .i64 z) ∧ (z = (g s).1 ∧ ∃ FW', WS d FW' w2 (g s).2 ∧ Only (fun b => FW b ∨ b = a) w w2 ∧ ∀ b, FW' b → FW b ∨ w.heap.size ≤ b) ∧ Th F' w' a wk (c.zs ++ [z]) (c.st + 1) (.slice none 0 0) [] 3 (c.k + 1) T' ∧ Only F w2 w' ∧ ∀ b, F' b → F b ∨ w2.heap.size ≤ b) :
    Calls Tryz.prog DO #[ptr a, fv] w (Post d R w a wk intV (run (tDo g) c s)) := by
  obtain ⟨⟨F, FW, T, h1, h2, h3, h4⟩, hok, hfew, hin, hfit⟩ := h
  obtain ⟨zs, st, k, live⟩ := c
  have haR : ∀ b, R b → b < w.heap.size ∧ ¬ b = a := fun b e => ⟨(h4 b e).1, fun e2 => (h4 b e).2.1 (e2 ▸ h1.fa)⟩
  have haW : ∀ b, FW b → ¬ b = a := fun b e e2 => h3 a h1.fa (e2 ▸ e)
  cases live with
  | true =>
    have hk1 : k ≤ zs.length := hok.1 rfl
    simp only [if_true] at hfew
    by_cases hk : k < zs.length
    · refine (hre F T h1 hk (by dsimp only; omega)).mono ?_
      rintro e w' ⟨rfl, r1, r2⟩
      rw [tDo, run_replay _ _ _ _ _ _ hk]
      exact ⟨Kp.only r2 haR, rfl, ⟨F, FW, T, r1, h2.only r2 haW, h3, fun b e => ⟨Nat.lt_of_lt_of_le (h4 b e).1 r2.size, (h4 b e).2⟩⟩, ⟨fun _ => hk, fun e => (by cases e)⟩, by simp only [if_true]; exact hfew, hin, hfit⟩
    · have hke : k = zs.length := by omega
      refine (hfr F FW T rfl h1 hke (by dsimp only at *; omega) (by dsimp only at *; omega) h2 h3 h4).mono ?_
      rintro e w' ⟨z, w2, F', T', rfl, ⟨rfl, FW', q1, q2, q3⟩, r1, r2, r3⟩
      have hFlt : ∀ b, F b → b < w.heap.size := h1.lt
      have hFW' : ∀ b, FW' b → ¬ F b := fun b e f => by
        rcases q3 b e with e | e
        · exact h3 b f e
        · have := hFlt b f; omega
      rw [tDo, run_fresh _ _ _ _ _ _ hke]
      refine ⟨(Kp.only q2 fun b e => ⟨(h4 b e).1, fun e2 => e2.elim (h4 b e).2.2 (haR b e).2⟩).trans (Kp.only r2 fun b e => ⟨Nat.lt_of_lt_of_le (h4 b e).1 q2.size, (h4 b e).2.1⟩), rfl, ⟨F', FW', T', r1, q1.only r2 hFW', ?_, ?_⟩, ⟨fun e => (by cases e), fun _ => (by simp [hke])⟩, (by simp; omega), ?_, fun e => (by cases e)⟩
      · intro b e f
        rcases r3 b e with e | e
        · exact hFW' b f e
        · have := q1.lt b f; omega
      · intro b e
        have hl := Nat.lt_of_lt_of_le (h4 b e).1 q2.size
        refine ⟨Nat.lt_of_lt_of_le hl r2.size, fun f => ?_, fun f => ?_⟩
        · rcases r3 b f with f | f
          · exact (h4 b e).2.1 f
          · omega
        · rcases q3 b f with f | f
          · exact (h4 b e).2.2 f
          · have := (h4 b e).1; omega
      · intro z hz
        rcases List.mem_append.1 hz with hz | hz
        · exact hin z hz
        · obtain rfl : z = (g s).1 := by simpa using hz
          exact hg rfl
  | false =>
    have hke : k = zs.length := hok.2 rfl
    simp at hfew
    refine (hwa F T h1 hke (by dsimp only at *; omega)).mono ?_
    rintro e w' ⟨rfl, r1, r2⟩
    rw [tDo, run_wait]
    exact ⟨Kp.only r2 haR, rfl, ⟨k, F, FW, T, r1, h2.only r2 haW, h3, fun b e => ⟨Nat.lt_of_lt_of_le (h4 b e).1 r2.size, (h4 b e).2⟩⟩, hin⟩
/-- Do of a closure. -/
theorem do_touch {g : Sig → Int × Sig} {f : Nat} {cap : Array Value} (hen : ∀ W : World, (callFunc f cap).run Tryz.prog W = .ok (.enter f cap) W) (h : Lv d R w a wk c s) (hg : c.live = true → in64 (g s).1) (ht : c.live = true → Tou d s R w f cap g) :
    Calls Tryz.prog DO #[ptr a, .func (.func f) #[] cap] w (Post d R w a wk intV (run (tDo g) c s)) := by
  refine do_touch0 h hg (fun F T h1 h2 h3 => do_replay _ _ _ h1 h2 h3) (fun F T h1 h2 h3 => do_wait _ _ _ h1 h2 h3) ?_
  intro F FW T hlive h1 hk hl hst h2 h3 h4
  refine do_fresh (S := fun z w2 => z = (g s).1 ∧ ∃ FW', WS d FW' w2 (g s).2 ∧ Only (fun b => FW b ∨ b = a) w w2 ∧ ∀ b, FW' b → FW b ∨ w.heap.size ≤ b) hen h1 hk hl hst ?_
  intro w1 hT hO
  have hW1 := h2.only hO (fun b e e2 => h3 a h1.fa (e2 ▸ e))
  refine (ht hlive w1 FW hW1 (fun b e => ⟨hO.block b (h4 b e).1 (fun e2 => (h4 b e).2.1 (e2 ▸ h1.fa)), (h4 b e).2.2⟩) hO.size).mono ?_
  rintro e w2 ⟨rfl, FW', q1, q2, q3⟩
  refine ⟨_, rfl, hT.only q2 h3, rfl, FW', q1, (hO.mono fun b e => .inr e).then (q2.mono fun b e => .inl e), fun b e => (q3 b e).imp id fun e => Nat.le_trans hO.size e⟩
/-- Do of a method value. -/
theorem do_touchM {g : Sig → Int × Sig} {f : Nat} {cap : Array Value} (hen : ∀ W : World, (callFunc f cap).run Tryz.prog W = .ok (.enter f cap) W) (h : Lv d R w a wk c s) (hg : c.live = true → in64 (g s).1) (ht : c.live = true → Tou d s R w f cap g) :
    Calls Tryz.prog DO #[ptr a, .func (.func f) cap #[]] w (Post d R w a wk intV (run (tDo g) c s)) := by
  refine do_touch0 h hg (fun F T h1 h2 h3 => do_replay _ _ _ h1 h2 h3) (fun F T h1 h2 h3 => do_wait _ _ _ h1 h2 h3) ?_
  intro F FW T hlive h1 hk hl hst h2 h3 h4
  refine do_freshM (S := fun z w2 => z = (g s).1 ∧ ∃ FW', WS d FW' w2 (g s).2 ∧ Only (fun b => FW b ∨ b = a) w w2 ∧ ∀ b, FW' b → FW b ∨ w.heap.size ≤ b) hen h1 hk hl hst ?_
  intro w1 hT hO
  have hW1 := h2.only hO (fun b e e2 => h3 a h1.fa (e2 ▸ e))
  refine (ht hlive w1 FW hW1 (fun b e => ⟨hO.block b (h4 b e).1 (fun e2 => (h4 b e).2.1 (e2 ▸ h1.fa)), (h4 b e).2.2⟩) hO.size).mono ?_
  rintro e w2 ⟨rfl, FW', q1, q2, q3⟩
  refine ⟨_, rfl, hT.only q2 h3, rfl, FW', q1, (hO.mono fun b e => .inr e).then (q2.mono fun b e => .inl e), fun b e => (q3 b e).imp id fun e => Nat.le_trans hO.size e⟩
end
end Go.Proofs.YtcegianjpifnbaaGreat
namespace Go.Proofs.YtcegianjpifnbaaGreat
open Go Go.RowKit

section
variable {P : Program} {ops : Array Oper} {Q : Exit → Act → World → Prop} {md : Region.Mode} {C : World → Prop} {st : Nat → Bool} {i j : Nat} {listed : Array Bool}
/-- Whatever is listed, what it waits for is. -/
def closed (md : Region.Mode) (ops : Array Oper) (listed : Array Bool) : Prop := ∀ j o, ops[j]? = some o → listed.getD j false = true → ∀ e ∈ o.after, Region.binds md e = true → listed.getD e.on false = true
def closedB (md : Region.Mode) (ops : Array Oper) (listed : Array Bool) : Bool := (List.range ops.size).all fun j => !listed.getD j false || ((ops[j]?).any fun o => o.after.all fun e => !Region.binds md e || listed.getD e.on false)
theorem closed_of (h : closedB md ops listed = true) : closed md ops listed := by
  intro j o ho hl e he hb
  unfold closedB at h
  rw [List.all_eq_true] at h
  have := h j (List.mem_range.2 (Array.getElem?_eq_some_iff.1 ho).1)
  rw [hl, ho] at this
  simp only [Bool.not_true, Bool.false_or, Option.any_some, Array.all_eq_true_iff_forall_mem] at this
  have := this e he
  rw [hb] at this
  simpa using this
theorem closed_more (h : closed md ops listed) (hj : j ∈ Region.ready md ops listed) : closed md ops (listed.setIfInBounds j true) := by
  have mono : ∀ k, listed.getD k false = true → (listed.setIfInBounds j true).getD k false = true := by
    intro k hk
    by_cases hs : k < listed.size
    · by_cases e : j = k
      · subst e; simp [Array.getD, hs]
      · simp [Array.getD, hs] at hk ⊢
        rw [Array.getElem_setIfInBounds_ne hs e]
        exact hk
    · simp [Array.getD, hs] at hk
  intro k o ho hl e he hb
  apply mono
  by_cases e1 : j = k
  · subst e1
    exact ready_waits hj ho he hb
  · refine h k o ho ?_ e he hb
    by_cases hs : k < listed.size
    · simp [Array.getD, hs] at hl ⊢
      rw [Array.getElem_setIfInBounds_ne hs e1] at hl
      exact hl
    · simp [Array.getD, hs] at hl
/-- Number s waits for number i, by way of others. -/
def dep (md : Region.Mode) (ops : Array Oper) : Nat → Nat → Nat → Bool
  | 0, _, _ => false
  | n + 1, s, i => (ops[s]?).any fun o => o.after.any fun e => Region.binds md e && (e.on == i || dep md ops n e.on i)
theorem dep_listed (hc : closed md ops listed) (n : Nat) : ∀ (s : Nat) (o : Oper), ops[s]? = some o → (∀ e ∈ o.after, Region.binds md e = true → listed.getD e.on false = true) → dep md ops n s i = true → listed.getD i false = true := by
  induction n with
  | zero => intro s o _ _ h; cases h
  | succ n ih =>
    intro s o ho hl h
    simp only [dep, ho, Option.any_some, Array.any_eq_true, Bool.and_eq_true, Bool.or_eq_true, beq_iff_eq] at h
    obtain ⟨k, hk, hb, he⟩ := h
    have h1 := hl _ (Array.getElem_mem hk) hb
    rcases he with he | he
    · rw [← he]; exact h1
    · cases n with
      | zero => cases he
      | succ n =>
        cases ho2 : ops[(o.after[k]).on]? with
        | none => simp [dep, ho2] at he
        | some o2 => exact ih _ o2 ho2 (hc _ o2 ho2 h1) he
def waitsW (md : Region.Mode) (ops : Array Oper) (st : Nat → Bool) (i : Nat) : Bool := (List.range ops.size).all fun s => !st s || dep md ops ops.size s i
theorem not_stW (hc : closed md ops listed) (hw : waitsW md ops st i = true) (hi : i ∈ Region.ready md ops listed) (hj : j ∈ Region.ready md ops listed) : st j = false := by
  cases hst : st j with
  | false => rfl
  | true =>
    exfalso
    obtain ⟨_, o, ho, _⟩ := mem_ready.1 hj
    unfold waitsW at hw
    rw [List.all_eq_true] at hw
    have := hw j (List.mem_range.2 (Array.getElem?_eq_some_iff.1 ho).1)
    rw [hst] at this
    simp only [Bool.not_true, Bool.false_or] at this
    exact both_no (ready_un hi) (dep_listed hc _ j o ho (fun e he hb => ready_waits hj ho he hb) this)
theorem take_nowW {oi : Oper} {v : Value} (hi : ops[i]? = some oi) (hsel : ∀ (j : Nat) (o : Oper) cs b, ops[j]? = some o → o.op ≠ .select cs b)
    (hQ : ∀ c a w, Q (.panic c) (a.put oi.dst v) w → Q (.panic c) a w) (hwt : waitsW md ops st i = true) (n : Nat) :
    ∀ (listed : Array Bool) (a : Act) (w : World), closed md ops listed → Loose md ops oi i listed → i ∈ Region.ready md ops listed → YieldsIf P ops C oi v a → C w →
      anyT P md ops Q C st n (listed.setIfInBounds i true) (a.put oi.dst v) w → anyT P md ops Q C st (n + 1) listed a w := by
  have one : ∀ m (listed : Array Bool) (a : Act) (w : World), YieldsIf P ops C oi v a → C w → anyT P md ops Q C st m (listed.setIfInBounds i true) (a.put oi.dst v) w →
      wpOp P ops Q i (fun a' w' => (st i = false → C w') ∧ anyT P md ops Q C st m (listed.setIfInBounds i true) a' w') a w := fun m l a w hy hC H => hy.wpOp hi hC ⟨fun _ => hC, H⟩
  induction n with
  | zero =>
    refine fun l a w _ _ hr hy hC H => ⟨fun h => absurd hr (by rw [h]; simp), fun j hj => ?_⟩
    by_cases e : j = i
    · subst e; exact one 0 l a w hy hC H
    · exact absurd (ready_mono hj e) (by rw [H.1]; simp)
  | succ n ih =>
    refine fun l a w hcl hl hr hy hC H => ⟨fun h => absurd hr (by rw [h]; simp), fun j hj => ?_⟩
    by_cases e : j = i
    · subst e; exact one (n + 1) l a w hy hC H
    · obtain ⟨hun, oj, hoj, _⟩ := mem_ready.1 hj
      have hst := not_stW hcl hwt hr hj
      refine wpOp_mono (fun a' w' k => ?_) (wpOp_putIf hoj (hl j oj hoj e hun (ready_free hr hj hoj)) (fun cs b => hsel i oi cs b hi) (fun cs b => hsel j oj cs b hoj) hQ hy (H.2 j (ready_mono hj e)))
      obtain ⟨hy', hC', H'⟩ := k
      rw [Array.setIfInBounds_comm _ _ (Ne.symm e)] at H'
      exact ⟨hC', ih _ a' w' (closed_more hcl hj) (hl.more j) (ready_mono hr (Ne.symm e)) hy' (hC' hst) H'⟩
theorem takeW {oi : Oper} {v : Value} {n : Nat} {a : Act} {w : World} (hi : ops[i]? = some oi)
    (hs : Region.noSelect ops = true) (hf : Region.free md ops listed i = true) (hr : (Region.ready md ops listed).contains i = true) (hcl : closedB md ops listed = true) (hwt : waitsW md ops st i = true)
    (hQ : ∀ c a w, Q (.panic c) (a.put oi.dst v) w → Q (.panic c) a w) (hC : C w) (hw : Region.wanted oi (yielded ops a.tmps) = true) (hy : ∀ w, C w → (execOp a.eval oi).run P w = .ok (.value v) w)
    (h : anyT P md ops Q C st n (listed.setIfInBounds i true) (a.put oi.dst v) w) : anyT P md ops Q C st (n + 1) listed a w :=
  take_nowW hi (Region.noSelect_spec hs) hQ hwt n listed a w (closed_of hcl) (Region.free_spec hi hf) (List.contains_iff_mem.1 hr) (.inl ⟨hw, hy⟩) hC h
end
end Go.Proofs.YtcegianjpifnbaaGreat
namespace Go.Proofs.YtcegianjpifnbaaGreat
open Go.ChangeShapes Go.WideShapes Go.ChangeAt Go.RowKit
set_option linter.unusedVariables false
set_option linter.unusedSimpArgs false
set_option maxRecDepth 20000

abbrev tkT : TypeId := 70
/-- A task's cells at block B. -/
structure Tk (w : World) (B a W : Nat) (me : Nat) : Prop where
  c0 : w.cell? ⟨B, 0, none⟩ = some (ptr a)
  c1 : w.cell? ⟨B, 1, none⟩ = some (ptr W)
  c2 : w.cell? ⟨B, 2, none⟩ = some (.int .i64 (me : Int))
abbrev tkV (a W : Nat) (me : Nat) : Value := .agg #[ptr a, ptr W, .int .i64 (me : Int)]
section
variable {d : Wd} {FW : Nat → Prop} {w w' : World} {s : Sig} {B C D a me i : Nat} {n r : Int}
theorem Tk.new (w : World) (a W me : Nat) : Tk (w.alloc (.cells #[ptr a, ptr W, .int .i64 (me : Int)] tkT)) w.heap.size a W me := ⟨c_new rfl rfl, c_new rfl rfl, c_new rfl rfl⟩
theorem Tk.cells {W : Nat} (h : Tk w B a W me) (hb : w'.heap[B]? = w.heap[B]?) : Tk w' B a W me := by
  have : ∀ j, w'.cell? ⟨B, j, none⟩ = w.cell? ⟨B, j, none⟩ := fun j => by unfold World.cell?; rw [hb]
  exact ⟨(this 0).trans h.c0, (this 1).trans h.c1, (this 2).trans h.c2⟩
theorem drew_W (h : WS d FW w s) : WS d FW w.drew s := h.below ((Below.refl _ w).drew)
theorem gone_drew {s' : Sig} (h : NxW d FW w.drew s' w') : NxW d FW w s' w' := NxW.after ((Below.refl _ w).drew) h
theorem hit_some {S : As} {p : Pa} (h : S.hit r = some (i, p)) : S.pls[i]? = some p ∧ p.used = true ∧ mk i p.cnt = r := by
  unfold As.hit at h
  split at h
  · rename_i q hq
    split at h
    · rename_i hh
      injection h with h
      injection h with h1 h2
      subst h1 h2
      exact ⟨hq, hh.1, hh.2⟩
    · cases h
  · cases h
theorem hit_none {S : As} (hok : Ok S) (h : S.hit r = none) : ∀ i, ¬ Hit S r i := by
  rintro i ⟨p, h1, h2, h3⟩
  have hl := (List.getElem?_eq_some_iff.1 h1).1
  have := pl_of_mk (i := i) (by have := hok.len; omega) h3
  have e : (pl r).toNat = i := by omega
  unfold As.hit at h
  rw [e, h1] at h
  simp only at h
  rw [if_pos ⟨h2, h3⟩] at h
  cases h
theorem nxW_free (h : WS d FW w s) (hok : Ok s.ar) (r : Int) : Calls Tryz.prog 41 #[ptr d.A, .int .i64 r] w fun e w' => ∃ b, e = .returned (.bool b) ∧ b2i b = (gFree r s).1 ∧ NxW d FW w (gFree r s).2 w' := by
  obtain ⟨FA, h1, h2, h3⟩ := h.ar
  cases hh : s.ar.hit r with
  | some ip =>
    obtain ⟨i, p⟩ := ip
    obtain ⟨k1, k2, k3⟩ := hit_some hh
    refine (free_yes h1 hok k1 k2 k3).mono ?_
    rintro e w' ⟨rfl, hn⟩
    refine ⟨true, rfl, ?_, ?_⟩
    · simp [gFree, As.drop, hh, b2i]
    · simp only [gFree, As.drop, hh]
      exact h3 _ _ hn
  | none =>
    refine (free_no h1 hok (hit_none hok hh)).mono ?_
    rintro e w' ⟨rfl, k1, k2⟩
    refine ⟨false, rfl, ?_, ?_⟩
    · simp [gFree, As.drop, hh, b2i]
    · simp only [gFree, As.drop, hh]
      exact h3 _ _ (Nx.of k1 k2)

end
end Go.Proofs.YtcegianjpifnbaaGreat
namespace Go.Proofs.YtcegianjpifnbaaGreat
open Go.ChangeShapes Go.WideShapes Go.ChangeAt Go.RowKit
set_option linter.unusedVariables false
set_option linter.unusedSimpArgs false
set_option maxRecDepth 20000

abbrev boolV (z : Int) : Value := .bool (z != 0)
abbrev bV (b : Bool) : Value := .bool b
abbrev noV (z : Int) : Value := .tuple #[]
abbrev uV (z : Unit) : Value := .tuple #[]
/-- A touch that answers V of its number. -/
def TouV (V : Int → Value) (d : Wd) (s : Sig) (R : Nat → Prop) (w : World) (f : Nat) (args : Array Value) (g : Sig → Int × Sig) : Prop :=
  ∀ w1 FW, WS d FW w1 s → (∀ b, R b → w1.heap[b]? = w.heap[b]? ∧ ¬ FW b) → w.heap.size ≤ w1.heap.size → Calls Tryz.prog f args w1 fun e w2 => e = .returned (V (g s).1) ∧ NxW d FW w1 (g s).2 w2
section
variable {d : Wd} {R R' : Nat → Prop} {w w' w0 : World} {a st ph k me : Nat} {wk : Value} {zs : List Int} {c : Cur} {s : Sig} {V : Int → Value} {f : Nat} {cap : Array Value} {g : Sig → Int × Sig}
/-- The block of a box that was made just now. -/
theorem Kp.new (h : Lv d R w a wk c s) (hb : Below w.heap.size w w') : Kp R w w' := Kp.below hb h.lt
theorem cell_same {w w' : World} {b j : Nat} {v : Value} (hb : w'.heap[b]? = w.heap[b]?) (h : w.cell? ⟨b, j, none⟩ = some v) : w'.cell? ⟨b, j, none⟩ = some v := by
  unfold World.cell? at h ⊢; rw [hb]; exact h
theorem askB_walk {Bx : Nat} (hen : ∀ W : World, (callFunc f cap).run Tryz.prog W = .ok (.enter f cap) W) (hc : w.cell? ⟨Bx, 0, none⟩ = some (.func (.func f) #[] cap)) {S : World → Prop} {b : Bool}
    (ht : Calls Tryz.prog f cap w fun e w2 => e = .returned (.bool b) ∧ S w2) :
    Calls Tryz.prog 143 #[ptr Bx] w fun e w2 => e = .returned (.int .i64 (b2i b)) ∧ S w2 := by
  refine (ask1_walk (S := fun b' w2 => b' = b ∧ S w2) hen hc (ht.mono ?_)).mono ?_
  · rintro e w2 ⟨rfl, h⟩; exact ⟨b, rfl, rfl, h⟩
  · rintro e w2 ⟨b', rfl, rfl, h⟩; exact ⟨rfl, h⟩
theorem ask_touch (hen : ∀ W : World, (callFunc f cap).run Tryz.prog W = .ok (.enter f cap) W) (h : Lv d R w a wk c s) (hg : c.live = true → (g s).1 = 0 ∨ (g s).1 = 1) (ht : c.live = true → TouV boolV d s R w f cap g) :
    Calls Tryz.prog 120 #[ptr a, .func (.func f) #[] cap] w (Post d R w a wk bV (run (.tch g fun z => .ret (z != 0)) c s)) := by
  have e2 := eq_ask
  have e3 := mk_fn
  have hrb : run (.tch g fun z => .ret (z != 0)) c s = (run (tDo g) c s).bind fun z c s => .ret (z != 0) c s := run_bind (tDo g) (fun z => .ret (z != 0)) c s
  rw [hrb]
  clear hrb
  obtain ⟨W, hW, bb, cc⟩ : ∃ W : World, w.alloc (.cells #[.func (.func f) #[] cap] 30) = W ∧ Below w.heap.size w W ∧ W.cell? ⟨w.heap.size, 0, none⟩ = some (.func (.func f) #[] cap) := ⟨_, rfl, below_new _ _, c_new rfl rfl⟩
  have hWs : w.heap.size < W.heap.size := World.block_lt_of_cell? W _ cc
  have h1 : Lv d (fun b => R b ∨ b = w.heap.size) W a wk c s := h.more bb (fun b e => e.imp id fun e => by omega)
  have hdo := do_touch (f := 143) (cap := #[ptr w.heap.size]) (g := g) (fun W => rfl) h1 (fun hl => by rcases hg hl with e | e <;> rw [e] <;> (unfold in64; omega)) (by
    intro hl w1 FW hWS hR hsz
    have hc1 := cell_same (hR _ (.inr rfl)).1 cc
    have hx := ht hl w1 FW hWS (fun b e => ⟨(hR b (.inl e)).1.trans (bb.block b (h.lt b e)), (hR b (.inl e)).2⟩) (Nat.le_trans bb.size hsz)
    refine (askB_walk hen hc1 hx).mono ?_
    rintro e w2 ⟨rfl, hn⟩
    refine ⟨?_, hn⟩
    rcases hg hl with e | e <;> rw [e] <;> rfl)
  have HK := Lib.hid (Kp.new h bb)
  have HD := Lib.hid hdo
  clear h ht bb hen h1 hg hWs hdo
  generalize run (tDo g) c s = o at HD ⊢
  go_enter Tryz.func120, Tryz.ntmps120
  go_wp2_with fail
  refine HD.out.mono ?_
  clear HD
  rintro e w1 hP
  cases o with
  | wait zs st s' =>
    obtain ⟨k1, rfl, k2⟩ := hP
    exact ⟨rfl, HK.out.trans (k1.mono fun b e => .inl e), rfl, k2.mono fun b e => .inl e⟩
  | ret z c' s' =>
    obtain ⟨k1, rfl, k2⟩ := hP
    have HE : Hid (Post d R w a wk bV (.ret (z != 0) c' s') (.returned (.bool (z != 0))) w1) := ⟨HK.out.trans (k1.mono fun b e => .inl e), rfl, k2.mono fun b e => .inl e⟩
    clear k1 k2
    go_wp2
    go_ret
    exact HE.out
/-- Two boxes. -/
theorem two_boxes (w : World) (a W me : Nat) (v : Value) (t : TypeId) : ∃ (X : World) (p q : Nat), (w.alloc (.cells #[ptr a, ptr W, .int .i64 (me : Int)] tkT)).alloc (.cells #[v] t) = X ∧ w.heap.size = p ∧ p + 1 = q ∧ Below w.heap.size w X ∧ Tk X p a W me ∧ X.cell? ⟨q, 0, none⟩ = some v ∧ X.heap.size = q + 1 :=
  ⟨_, _, _, rfl, rfl, rfl, ((Below.refl _ w).alloc (Nat.le_refl _) _).alloc (by simp) _, (Tk.new w a W me).cells (Below.heap_alloc _ _ _ (by simp)), c_new (by simp) rfl, by simp⟩
end
end Go.Proofs.YtcegianjpifnbaaGreat
namespace Go.Proofs.YtcegianjpifnbaaGreat
open Go.ChangeShapes Go.WideShapes Go.ChangeAt Go.RowKit
set_option linter.unusedVariables false
set_option linter.unusedSimpArgs false
set_option maxRecDepth 20000

section
variable {d : Wd} {FW R : Nat → Prop} {w w' : World} {s : Sig} {B C D a me i : Nat} {n r : Int}
theorem b2i_back {b : Bool} {z : Int} (h : b2i b = z) : b = (z != 0) := by rw [← h, b2i_ne]
theorem fit_rdy (hf : Fit s) : Ok (gRdy me n s).2.ar := by
  unfold gRdy
  split
  · split
    · exact hf.ok
    · exact hf.ok
  · exact hf.ok
end
end Go.Proofs.YtcegianjpifnbaaGreat
namespace Go.Proofs.YtcegianjpifnbaaGreat
open Go.ChangeShapes Go.WideShapes Go.ChangeAt Go.RowKit
set_option linter.unusedVariables false
set_option linter.unusedSimpArgs false
set_option maxRecDepth 20000

def tTake (node was n : Int) : Tr Bool := .tch (gSwapInfo node was n) fun z => if (z != 0) = true then .ret true else .tch (gInfo node) fun y => .ret (y == n)
def tSet (n t : Int) : Tr Unit := .tch (gSet n t) fun _ => .ret ()
def tSettle (n : Int) : Tr Bool := .tch (gAll n) fun z => if (z != 0) = true then .ret true else (tSet n 0).bind fun _ => .ret false
def tMarks (F : Tr Unit) : List Int → Tr Unit
  | [] => F
  | r :: l => .tch (gSetMark r) fun _ => tMarks F l
def tWay (r : Rc) (F : Tr Unit) : Tr Unit := match r.ns with
  | [] => F
  | x :: _ => .tch (gSwapWay x r.wy r.od r.nw) fun _ => F
def tFinish (r : Rc) (n : Int) : Tr Unit := .tch (gSetAll n) fun _ => tMarks (tWay r (tSet n 2)) (r.ns.drop (min r.kp.toNat r.ns.length))
def tTakes (r : Rc) (n : Int) : List (Int × Int) → Tr Bool
  | [] => (tFinish r n).bind fun _ => .ret true
  | p :: l => (tTake p.1 p.2 n).bind fun b => if b = true then tTakes r n l else tSettle n
def tHelp (r : Rc) (n : Int) : Tr Bool := tTakes r n (r.ns.zip r.is)
section
variable {d : Wd} {FW R : Nat → Prop} {w w' : World} {s : Sig} {B C D E a me i : Nat} {n r o k : Int}
theorem nxW_swapInfo (h : WS d FW w s) (hok : Ok s.ar) (r o n : Int) : Calls Tryz.prog 152 #[ptr d.A, .int .i64 r, .int .i64 o, .int .i64 n] w fun e w' => e = .returned (boolV (gSwapInfo r o n s).1) ∧ NxW d FW w (gSwapInfo r o n s).2 w' := by
  obtain ⟨FA, h1, h2, h3⟩ := h.ar
  cases hh : s.ar.hit r with
  | some ip =>
    obtain ⟨i, p⟩ := ip
    obtain ⟨k1, k2, k3⟩ := hit_some hh
    by_cases ho : p.info = o
    · refine (swapInfo_yes h1 hok k1 k2 k3 o n ho).mono ?_
      rintro e w' ⟨rfl, q1, q2⟩
      simp only [gSwapInfo, gAr, As.with, hh, if_pos ho]
      exact ⟨rfl, h3 _ _ (Nx.of q1 q2)⟩
    · refine (swapInfo_not h1 hok k1 k2 k3 o n ho).mono ?_
      rintro e w' ⟨rfl, rfl⟩
      simp only [gSwapInfo, gAr, As.with, hh, if_neg ho]
      exact ⟨rfl, NxW.same h⟩
  | none =>
    refine (swapInfo_no h1 hok (hit_none hok hh) o n).mono ?_
    rintro e w' ⟨rfl, q1, q2⟩
    simp only [gSwapInfo, gAr, As.with, hh]
    exact ⟨rfl, h3 _ _ (Nx.of q1 q2)⟩
theorem nxW_info (h : WS d FW w s) (hok : Ok s.ar) (r : Int) : Calls Tryz.prog 134 #[ptr d.A, .int .i64 r] w fun e w' => e = .returned (intV (gInfo r s).1) ∧ NxW d FW w (gInfo r s).2 w' := by
  obtain ⟨FA, h1, h2, h3⟩ := h.ar
  cases hh : s.ar.hit r with
  | some ip =>
    obtain ⟨i, p⟩ := ip
    obtain ⟨k1, k2, k3⟩ := hit_some hh
    refine (info_yes h1 hok k1 k2 k3).mono ?_
    rintro e w' ⟨rfl, rfl⟩
    simp only [gInfo, gAr, As.with, hh]
    exact ⟨trivial, NxW.same h⟩
  | none =>
    refine (info_no h1 hok (hit_none hok hh)).mono ?_
    rintro e w' ⟨rfl, q1, q2⟩
    simp only [gInfo, gAr, As.with, hh]
    exact ⟨trivial, h3 _ _ (Nx.of q1 q2)⟩
theorem nxW_setMark (h : WS d FW w s) (hok : Ok s.ar) (r : Int) : Calls Tryz.prog 161 #[ptr d.A, .int .i64 r] w fun e w' => e = .returned (.tuple #[]) ∧ NxW d FW w (gSetMark r s).2 w' := by
  obtain ⟨FA, h1, h2, h3⟩ := h.ar
  cases hh : s.ar.hit r with
  | some ip =>
    obtain ⟨i, p⟩ := ip
    obtain ⟨k1, k2, k3⟩ := hit_some hh
    refine (setMark_yes h1 hok k1 k2 k3).mono ?_
    rintro e w' ⟨rfl, q1, q2⟩
    simp only [gSetMark, gAr, As.with, hh]
    exact ⟨trivial, h3 _ _ (Nx.of q1 q2)⟩
  | none =>
    refine (setMark_no h1 hok (hit_none hok hh)).mono ?_
    rintro e w' ⟨rfl, q1, q2⟩
    simp only [gSetMark, gAr, As.with, hh]
    exact ⟨trivial, h3 _ _ (Nx.of q1 q2)⟩
theorem nxW_swapWay (h : WS d FW w s) (hok : Ok s.ar) (r k o n : Int) : Calls Tryz.prog 39 #[ptr d.A, .int .i64 r, .int .i64 k, .int .i64 o, .int .i64 n] w fun e w' => e = .returned (boolV (gSwapWay r k o n s).1) ∧ NxW d FW w (gSwapWay r k o n s).2 w' := by
  obtain ⟨FA, h1, h2, h3⟩ := h.ar
  cases hh : s.ar.hit r with
  | some ip =>
    obtain ⟨i, p⟩ := ip
    obtain ⟨k1, k2, k3⟩ := hit_some hh
    by_cases hy : hasB p.ws.length k = true ∧ wayAt p k = o
    · obtain ⟨j, rfl, hj⟩ := hasB_nat hy.1
      refine (swapWay_do h1 hok k1 k2 k3 j o n hj hy.2).mono ?_
      rintro e w' ⟨rfl, q1, q2⟩
      simp only [gSwapWay, gAr, As.with, hh, if_pos hy, Int.toNat_natCast]
      exact ⟨rfl, h3 _ _ (Nx.of q1 q2)⟩
    · refine (swapWay_not h1 hok k1 k2 k3 k o n hy).mono ?_
      rintro e w' ⟨rfl, rfl⟩
      simp only [gSwapWay, gAr, As.with, hh, if_neg hy]
      exact ⟨rfl, NxW.same h⟩
  | none =>
    refine (swapWay_no h1 hok (hit_none hok hh) k o n).mono ?_
    rintro e w' ⟨rfl, q1, q2⟩
    simp only [gSwapWay, gAr, As.with, hh]
    exact ⟨rfl, h3 _ _ (Nx.of q1 q2)⟩
theorem rcAt_some {l : List Re} {i : Nat} {x : Re} (h : rcAt l n = some (i, x)) : l[i]? = some x ∧ n = (i : Int) + 1 := by
  unfold rcAt at h
  split at h
  · cases h
  · split at h
    · rename_i h1 y hy
      injection h with h
      injection h with h2 h3
      subst h2 h3
      exact ⟨hy, by omega⟩
    · cases h
theorem rcAt_none {l : List Re} (h : rcAt l n = none) : n < 1 ∨ (l.length : Int) < n := by
  unfold rcAt at h
  split at h
  · rename_i h1; exact .inl h1
  · split at h
    · cases h
    · rename_i h1 hy
      have := List.getElem?_eq_none_iff.1 hy
      omega
theorem it_at {l : List It} {rs : List Re} (h : l.map It.re = rs) {x : Re} (hx : rs[i]? = some x) : ∃ y, l[i]? = some y ∧ y.re = x := by
  rw [← h, List.getElem?_map] at hx
  cases hy : l[i]? with
  | none => rw [hy] at hx; cases hx
  | some y => rw [hy] at hx; injection hx with hx; exact ⟨y, rfl, hx⟩
theorem len_it {l : List It} {rs : List Re} (h : l.map It.re = rs) : l.length = rs.length := by rw [← h, List.length_map]
theorem nxW_all (h : WS d FW w s) (hl : s.rs.length ≤ 1000) (n : Int) : Calls Tryz.prog 155 #[ptr d.R, .int .i64 n] w fun e w' => e = .returned (boolV (gAll n s).1) ∧ NxW d FW w (gAll n s).2 w' := by
  obtain ⟨FT, ⟨l, P, h1, h2⟩, -, -⟩ := h.rc
  cases hh : rcAt s.rs n with
  | some ix =>
    obtain ⟨i, x⟩ := ix
    obtain ⟨k1, k2⟩ := rcAt_some hh
    obtain ⟨y, y1, y2⟩ := it_at h2 k1
    refine (recAll_yes h1 y1 k2 (by rw [len_it h2]; omega)).mono ?_
    rintro e w' ⟨rfl, rfl⟩
    simp only [gAll, hh, ← y2, It.re]
    exact ⟨by cases y.all <;> rfl, NxW.same h⟩
  | none =>
    refine (recAll_no h1 (by rw [len_it h2]; exact rcAt_none hh)).mono ?_
    rintro e w' ⟨rfl, rfl⟩
    simp only [gAll, hh]
    exact ⟨rfl, NxW.same h⟩
theorem nxW_setAll (h : WS d FW w s) (hl : s.rs.length ≤ 1000) (n : Int) : Calls Tryz.prog 159 #[ptr d.R, .int .i64 n] w fun e w' => e = .returned (.tuple #[]) ∧ NxW d FW w (gSetAll n s).2 w' := by
  obtain ⟨FT, ⟨l, P, h1, h2⟩, -, h3⟩ := h.rc
  cases hh : rcAt s.rs n with
  | some ix =>
    obtain ⟨i, x⟩ := ix
    obtain ⟨k1, k2⟩ := rcAt_some hh
    obtain ⟨y, y1, y2⟩ := it_at h2 k1
    refine (setAll_yes h1 y1 k2 (by rw [len_it h2]; omega)).mono ?_
    rintro e w' ⟨rfl, q1, q2⟩
    simp only [gSetAll, setRe, hh, ← y2]
    exact ⟨trivial, h3 _ _ ⟨FT, ⟨_, _, q1, by rw [List.map_set, h2]; rfl⟩, q2, fun b e => .inl e⟩⟩
  | none =>
    refine (setAll_no h1 (by rw [len_it h2]; exact rcAt_none hh)).mono ?_
    rintro e w' ⟨rfl, rfl⟩
    simp only [gSetAll, setRe, hh]
    exact ⟨trivial, NxW.same h⟩
theorem nxW_set (h : WS d FW w s) (hl : s.rs.length ≤ 1000) (n t : Int) : Calls Tryz.prog 167 #[ptr d.R, .int .i64 n, .int .u8 t] w fun e w' => e = .returned (.tuple #[]) ∧ NxW d FW w (gSet n t s).2 w' := by
  obtain ⟨FT, ⟨l, P, h1, h2⟩, -, h3⟩ := h.rc
  cases hh : rcAt s.rs n with
  | some ix =>
    obtain ⟨i, x⟩ := ix
    obtain ⟨k1, k2⟩ := rcAt_some hh
    obtain ⟨y, y1, y2⟩ := it_at h2 k1
    refine (recSet_yes h1 y1 k2 (by rw [len_it h2]; omega) t).mono ?_
    rintro e w' ⟨rfl, q1, q2⟩
    simp only [gSet, setRe, hh, ← y2]
    exact ⟨trivial, h3 _ _ ⟨FT, ⟨_, _, q1, by rw [List.map_set, h2]; rfl⟩, q2, fun b e => .inl e⟩⟩
  | none =>
    refine (recSet_no h1 (by rw [len_it h2]; exact rcAt_none hh) t).mono ?_
    rintro e w' ⟨rfl, rfl⟩
    simp only [gSet, setRe, hh]
    exact ⟨trivial, NxW.same h⟩
theorem nxW_rlook (h : WS d FW w s) (hl : s.rs.length ≤ 1000) (n : Int) : Calls Tryz.prog 139 #[ptr d.R, .int .i64 n] w (MadeR w (rcOf s.rs n)) := by
  obtain ⟨FT, ⟨l, P, h1, h2⟩, -, -⟩ := h.rc
  cases hh : rcAt s.rs n with
  | some ix =>
    obtain ⟨i, x⟩ := ix
    obtain ⟨k1, k2⟩ := rcAt_some hh
    obtain ⟨y, y1, y2⟩ := it_at h2 k1
    have := recLook_yes h1 y1 k2 (by rw [len_it h2]; omega)
    simp only [rcOf, hh, ← y2, It.re]
    exact this
  | none =>
    simp only [rcOf, hh]
    exact recLook_no h1 (by rw [len_it h2]; exact rcAt_none hh)

/-- The closures. -/
theorem take1_walk (h : WS d FW w s) (hf : Fit s) (hB : Tk w B a d.W me) (hC : w.cell? ⟨C, 0, none⟩ = some (.int .i64 r)) (hD : w.cell? ⟨D, 0, none⟩ = some (.int .i64 o)) (hE : w.cell? ⟨E, 0, none⟩ = some (.int .i64 n)) :
    Calls Tryz.prog 151 #[ptr B, ptr C, ptr D, ptr E] w fun e w' => e = .returned (boolV (gSwapInfo r o n s).1) ∧ NxW d FW w (gSwapInfo r o n s).2 w' := by
  have h0 := hB.c1
  have h2 := h.cells.1
  have HS := Lib.hid (nxW_swapInfo (drew_W h) hf.ok r o n)
  have hC0 : w.drew.cell? ⟨B, 1, none⟩ = some (ptr d.W) ∧ w.drew.cell? ⟨C, 0, none⟩ = some (.int .i64 r) ∧ w.drew.cell? ⟨D, 0, none⟩ = some (.int .i64 o) ∧ w.drew.cell? ⟨E, 0, none⟩ = some (.int .i64 n) ∧ w.drew.cell? ⟨d.W, 0, none⟩ = some (ptr d.A) := ⟨h0, hC, hD, hE, h2⟩
  clear hB h h0 h2 hC hD hE
  go_enter Tryz.func151, Tryz.ntmps151
  go_wp2_with fail
  refine region_T (fun k => Nat.ble 8 k) (fun w' => w'.cell? ⟨B, 1, none⟩ = some (ptr d.W) ∧ w'.cell? ⟨C, 0, none⟩ = some (.int .i64 r) ∧ w'.cell? ⟨D, 0, none⟩ = some (.int .i64 o) ∧ w'.cell? ⟨E, 0, none⟩ = some (.int .i64 n) ∧ w'.cell? ⟨d.W, 0, none⟩ = some (ptr d.A)) (by kernel_rfl) ?_
  have hC := hC0
  refine takeW (i := 0) (v := ?_) rfl (by kernel_rfl) (by kernel_rfl) (by kernel_rfl) (by kernel_rfl) (by kernel_rfl) (fun _ _ _ h => h) hC (by rfl) ?_ ?_
  rotate_left
  · intro w hSw; (try dsimp only at hSw); go_simp; try (with_reducible rfl)
  try simp only [Act.put, List.setIfInBounds_toArray, List.set_cons_zero, List.set_cons_succ]
  refine takeW (i := 1) (v := ?_) rfl (by kernel_rfl) (by kernel_rfl) (by kernel_rfl) (by kernel_rfl) (by kernel_rfl) (fun _ _ _ h => h) hC (by rfl) ?_ ?_
  rotate_left
  · intro w hSw; (try dsimp only at hSw); go_simp; try (with_reducible rfl)
  try simp only [Act.put, List.setIfInBounds_toArray, List.set_cons_zero, List.set_cons_succ]
  refine takeW (i := 2) (v := ?_) rfl (by kernel_rfl) (by kernel_rfl) (by kernel_rfl) (by kernel_rfl) (by kernel_rfl) (fun _ _ _ h => h) hC (by rfl) ?_ ?_
  rotate_left
  · intro w hSw; (try dsimp only at hSw); go_simp; try (with_reducible rfl)
  try simp only [Act.put, List.setIfInBounds_toArray, List.set_cons_zero, List.set_cons_succ]
  refine takeW (i := 3) (v := ?_) rfl (by kernel_rfl) (by kernel_rfl) (by kernel_rfl) (by kernel_rfl) (by kernel_rfl) (fun _ _ _ h => h) hC (by rfl) ?_ ?_
  rotate_left
  · intro w hSw; (try dsimp only at hSw); go_simp; try (with_reducible rfl)
  try simp only [Act.put, List.setIfInBounds_toArray, List.set_cons_zero, List.set_cons_succ]
  refine takeW (i := 4) (v := ?_) rfl (by kernel_rfl) (by kernel_rfl) (by kernel_rfl) (by kernel_rfl) (by kernel_rfl) (fun _ _ _ h => h) hC (by rfl) ?_ ?_
  rotate_left
  · intro w hSw; (try dsimp only at hSw); go_simp; try (with_reducible rfl)
  try simp only [Act.put, List.setIfInBounds_toArray, List.set_cons_zero, List.set_cons_succ]
  refine takeW (i := 5) (v := ?_) rfl (by kernel_rfl) (by kernel_rfl) (by kernel_rfl) (by kernel_rfl) (by kernel_rfl) (fun _ _ _ h => h) hC (by rfl) ?_ ?_
  rotate_left
  · intro w hSw; (try dsimp only at hSw); go_simp; try (with_reducible rfl)
  try simp only [Act.put, List.setIfInBounds_toArray, List.set_cons_zero, List.set_cons_succ]
  refine takeW (i := 6) (v := ?_) rfl (by kernel_rfl) (by kernel_rfl) (by kernel_rfl) (by kernel_rfl) (by kernel_rfl) (fun _ _ _ h => h) hC (by rfl) ?_ ?_
  rotate_left
  · intro w hSw; (try dsimp only at hSw); go_simp; try (with_reducible rfl)
  try simp only [Act.put, List.setIfInBounds_toArray, List.set_cons_zero, List.set_cons_succ]
  refine takeW (i := 7) (v := ?_) rfl (by kernel_rfl) (by kernel_rfl) (by kernel_rfl) (by kernel_rfl) (by kernel_rfl) (fun _ _ _ h => h) hC (by rfl) ?_ ?_
  rotate_left
  · intro w hSw; (try dsimp only at hSw); go_simp; try (with_reducible rfl)
  try simp only [Act.put, List.setIfInBounds_toArray, List.set_cons_zero, List.set_cons_succ]
  refine oneT (i := 8) (by kernel_rfl) rfl (by rfl) (fun K hK => ?_)
  go_simp
  refine HS.out.mono ?_
  rintro e w' ⟨rfl, hn⟩
  refine hK.out _ _ (fun h => absurd h (by decide)) ?_
  clear hK K hC hC0 HS
  have HN := Lib.hid (gone_drew hn)
  clear hn
  try simp only [Act.put, List.setIfInBounds_toArray, List.set_cons_zero, List.set_cons_succ]
  refine oneT (i := 9) (by kernel_rfl) rfl (by rfl) (fun K hK => ?_)
  go_simp
  refine hK.out _ _ (fun h => absurd h (by decide)) ?_
  clear hK K
  try simp only [Act.put, List.setIfInBounds_toArray, List.set_cons_zero, List.set_cons_succ]
  refine doneT (by kernel_rfl) ?_
  go_wp2
  go_ret
  exact ⟨rfl, HN.out⟩
theorem take2_walk (h : WS d FW w s) (hf : Fit s) (hB : Tk w B a d.W me) (hC : w.cell? ⟨C, 0, none⟩ = some (.int .i64 r)) :
    Calls Tryz.prog 153 #[ptr B, ptr C] w fun e w' => e = .returned (intV (gInfo r s).1) ∧ NxW d FW w (gInfo r s).2 w' := by
  have h0 := hB.c1
  have h2 := h.cells.1
  have HS := Lib.hid (nxW_info (drew_W h) hf.ok r)
  have hC0 : w.drew.cell? ⟨B, 1, none⟩ = some (ptr d.W) ∧ w.drew.cell? ⟨C, 0, none⟩ = some (.int .i64 r) ∧ w.drew.cell? ⟨d.W, 0, none⟩ = some (ptr d.A) := ⟨h0, hC, h2⟩
  clear hB h h0 h2 hC
  go_enter Tryz.func153, Tryz.ntmps153
  go_wp2_with fail
  refine region_T (fun k => Nat.ble 6 k) (fun w' => w'.cell? ⟨B, 1, none⟩ = some (ptr d.W) ∧ w'.cell? ⟨C, 0, none⟩ = some (.int .i64 r) ∧ w'.cell? ⟨d.W, 0, none⟩ = some (ptr d.A)) (by kernel_rfl) ?_
  have hC := hC0
  refine takeW (i := 0) (v := ?_) rfl (by kernel_rfl) (by kernel_rfl) (by kernel_rfl) (by kernel_rfl) (by kernel_rfl) (fun _ _ _ h => h) hC (by rfl) ?_ ?_
  rotate_left
  · intro w hSw; (try dsimp only at hSw); go_simp; try (with_reducible rfl)
  try simp only [Act.put, List.setIfInBounds_toArray, List.set_cons_zero, List.set_cons_succ]
  refine takeW (i := 1) (v := ?_) rfl (by kernel_rfl) (by kernel_rfl) (by kernel_rfl) (by kernel_rfl) (by kernel_rfl) (fun _ _ _ h => h) hC (by rfl) ?_ ?_
  rotate_left
  · intro w hSw; (try dsimp only at hSw); go_simp; try (with_reducible rfl)
  try simp only [Act.put, List.setIfInBounds_toArray, List.set_cons_zero, List.set_cons_succ]
  refine takeW (i := 2) (v := ?_) rfl (by kernel_rfl) (by kernel_rfl) (by kernel_rfl) (by kernel_rfl) (by kernel_rfl) (fun _ _ _ h => h) hC (by rfl) ?_ ?_
  rotate_left
  · intro w hSw; (try dsimp only at hSw); go_simp; try (with_reducible rfl)
  try simp only [Act.put, List.setIfInBounds_toArray, List.set_cons_zero, List.set_cons_succ]
  refine takeW (i := 3) (v := ?_) rfl (by kernel_rfl) (by kernel_rfl) (by kernel_rfl) (by kernel_rfl) (by kernel_rfl) (fun _ _ _ h => h) hC (by rfl) ?_ ?_
  rotate_left
  · intro w hSw; (try dsimp only at hSw); go_simp; try (with_reducible rfl)
  try simp only [Act.put, List.setIfInBounds_toArray, List.set_cons_zero, List.set_cons_succ]
  refine takeW (i := 4) (v := ?_) rfl (by kernel_rfl) (by kernel_rfl) (by kernel_rfl) (by kernel_rfl) (by kernel_rfl) (fun _ _ _ h => h) hC (by rfl) ?_ ?_
  rotate_left
  · intro w hSw; (try dsimp only at hSw); go_simp; try (with_reducible rfl)
  try simp only [Act.put, List.setIfInBounds_toArray, List.set_cons_zero, List.set_cons_succ]
  refine takeW (i := 5) (v := ?_) rfl (by kernel_rfl) (by kernel_rfl) (by kernel_rfl) (by kernel_rfl) (by kernel_rfl) (fun _ _ _ h => h) hC (by rfl) ?_ ?_
  rotate_left
  · intro w hSw; (try dsimp only at hSw); go_simp; try (with_reducible rfl)
  try simp only [Act.put, List.setIfInBounds_toArray, List.set_cons_zero, List.set_cons_succ]
  refine oneT (i := 6) (by kernel_rfl) rfl (by rfl) (fun K hK => ?_)
  go_simp
  refine HS.out.mono ?_
  rintro e w' ⟨rfl, hn⟩
  refine hK.out _ _ (fun h => absurd h (by decide)) ?_
  clear hK K hC hC0 HS
  have HN := Lib.hid (gone_drew hn)
  clear hn
  try simp only [Act.put, List.setIfInBounds_toArray, List.set_cons_zero, List.set_cons_succ]
  refine oneT (i := 7) (by kernel_rfl) rfl (by rfl) (fun K hK => ?_)
  go_simp
  refine hK.out _ _ (fun h => absurd h (by decide)) ?_
  clear hK K
  try simp only [Act.put, List.setIfInBounds_toArray, List.set_cons_zero, List.set_cons_succ]
  refine doneT (by kernel_rfl) ?_
  go_wp2
  go_ret
  exact ⟨rfl, HN.out⟩
theorem settle1_walk (h : WS d FW w s) (hf : Fit s) (hB : Tk w B a d.W me) (hC : w.cell? ⟨C, 0, none⟩ = some (.int .i64 n)) :
    Calls Tryz.prog 154 #[ptr B, ptr C] w fun e w' => e = .returned (boolV (gAll n s).1) ∧ NxW d FW w (gAll n s).2 w' := by
  have h0 := hB.c1
  have h2 := h.cells.2.1
  have HS := Lib.hid (nxW_all (drew_W h) hf.rc.1 n)
  have hC0 : w.drew.cell? ⟨B, 1, none⟩ = some (ptr d.W) ∧ w.drew.cell? ⟨C, 0, none⟩ = some (.int .i64 n) ∧ w.drew.cell? ⟨d.W, 1, none⟩ = some (ptr d.R) := ⟨h0, hC, h2⟩
  clear hB h h0 h2 hC
  go_enter Tryz.func154, Tryz.ntmps154
  go_wp2_with fail
  refine region_T (fun k => Nat.ble 6 k) (fun w' => w'.cell? ⟨B, 1, none⟩ = some (ptr d.W) ∧ w'.cell? ⟨C, 0, none⟩ = some (.int .i64 n) ∧ w'.cell? ⟨d.W, 1, none⟩ = some (ptr d.R)) (by kernel_rfl) ?_
  have hC := hC0
  refine takeW (i := 0) (v := ?_) rfl (by kernel_rfl) (by kernel_rfl) (by kernel_rfl) (by kernel_rfl) (by kernel_rfl) (fun _ _ _ h => h) hC (by rfl) ?_ ?_
  rotate_left
  · intro w hSw; (try dsimp only at hSw); go_simp; try (with_reducible rfl)
  try simp only [Act.put, List.setIfInBounds_toArray, List.set_cons_zero, List.set_cons_succ]
  refine takeW (i := 1) (v := ?_) rfl (by kernel_rfl) (by kernel_rfl) (by kernel_rfl) (by kernel_rfl) (by kernel_rfl) (fun _ _ _ h => h) hC (by rfl) ?_ ?_
  rotate_left
  · intro w hSw; (try dsimp only at hSw); go_simp; try (with_reducible rfl)
  try simp only [Act.put, List.setIfInBounds_toArray, List.set_cons_zero, List.set_cons_succ]
  refine takeW (i := 2) (v := ?_) rfl (by kernel_rfl) (by kernel_rfl) (by kernel_rfl) (by kernel_rfl) (by kernel_rfl) (fun _ _ _ h => h) hC (by rfl) ?_ ?_
  rotate_left
  · intro w hSw; (try dsimp only at hSw); go_simp; try (with_reducible rfl)
  try simp only [Act.put, List.setIfInBounds_toArray, List.set_cons_zero, List.set_cons_succ]
  refine takeW (i := 3) (v := ?_) rfl (by kernel_rfl) (by kernel_rfl) (by kernel_rfl) (by kernel_rfl) (by kernel_rfl) (fun _ _ _ h => h) hC (by rfl) ?_ ?_
  rotate_left
  · intro w hSw; (try dsimp only at hSw); go_simp; try (with_reducible rfl)
  try simp only [Act.put, List.setIfInBounds_toArray, List.set_cons_zero, List.set_cons_succ]
  refine takeW (i := 4) (v := ?_) rfl (by kernel_rfl) (by kernel_rfl) (by kernel_rfl) (by kernel_rfl) (by kernel_rfl) (fun _ _ _ h => h) hC (by rfl) ?_ ?_
  rotate_left
  · intro w hSw; (try dsimp only at hSw); go_simp; try (with_reducible rfl)
  try simp only [Act.put, List.setIfInBounds_toArray, List.set_cons_zero, List.set_cons_succ]
  refine takeW (i := 5) (v := ?_) rfl (by kernel_rfl) (by kernel_rfl) (by kernel_rfl) (by kernel_rfl) (by kernel_rfl) (fun _ _ _ h => h) hC (by rfl) ?_ ?_
  rotate_left
  · intro w hSw; (try dsimp only at hSw); go_simp; try (with_reducible rfl)
  try simp only [Act.put, List.setIfInBounds_toArray, List.set_cons_zero, List.set_cons_succ]
  refine oneT (i := 6) (by kernel_rfl) rfl (by rfl) (fun K hK => ?_)
  go_simp
  refine HS.out.mono ?_
  rintro e w' ⟨rfl, hn⟩
  refine hK.out _ _ (fun h => absurd h (by decide)) ?_
  clear hK K hC hC0 HS
  have HN := Lib.hid (gone_drew hn)
  clear hn
  try simp only [Act.put, List.setIfInBounds_toArray, List.set_cons_zero, List.set_cons_succ]
  refine oneT (i := 7) (by kernel_rfl) rfl (by rfl) (fun K hK => ?_)
  go_simp
  refine hK.out _ _ (fun h => absurd h (by decide)) ?_
  clear hK K
  try simp only [Act.put, List.setIfInBounds_toArray, List.set_cons_zero, List.set_cons_succ]
  refine doneT (by kernel_rfl) ?_
  go_wp2
  go_ret
  exact ⟨rfl, HN.out⟩
theorem fin1_walk (h : WS d FW w s) (hf : Fit s) (hB : Tk w B a d.W me) (hC : w.cell? ⟨C, 0, none⟩ = some (.int .i64 n)) :
    Calls Tryz.prog 158 #[ptr B, ptr C] w fun e w' => e = .returned (.tuple #[]) ∧ NxW d FW w (gSetAll n s).2 w' := by
  have h0 := hB.c1
  have h2 := h.cells.2.1
  have HS := Lib.hid (nxW_setAll (drew_W h) hf.rc.1 n)
  have hC0 : w.drew.cell? ⟨B, 1, none⟩ = some (ptr d.W) ∧ w.drew.cell? ⟨C, 0, none⟩ = some (.int .i64 n) ∧ w.drew.cell? ⟨d.W, 1, none⟩ = some (ptr d.R) := ⟨h0, hC, h2⟩
  clear hB h h0 h2 hC
  go_enter Tryz.func158, Tryz.ntmps158
  refine region_T (fun k => Nat.ble 6 k) (fun w' => w'.cell? ⟨B, 1, none⟩ = some (ptr d.W) ∧ w'.cell? ⟨C, 0, none⟩ = some (.int .i64 n) ∧ w'.cell? ⟨d.W, 1, none⟩ = some (ptr d.R)) (by kernel_rfl) ?_
  have hC := hC0
  refine takeW (i := 0) (v := ?_) rfl (by kernel_rfl) (by kernel_rfl) (by kernel_rfl) (by kernel_rfl) (by kernel_rfl) (fun _ _ _ h => h) hC (by rfl) ?_ ?_
  rotate_left
  · intro w hSw; (try dsimp only at hSw); go_simp; try (with_reducible rfl)
  try simp only [Act.put, List.setIfInBounds_toArray, List.set_cons_zero, List.set_cons_succ]
  refine takeW (i := 1) (v := ?_) rfl (by kernel_rfl) (by kernel_rfl) (by kernel_rfl) (by kernel_rfl) (by kernel_rfl) (fun _ _ _ h => h) hC (by rfl) ?_ ?_
  rotate_left
  · intro w hSw; (try dsimp only at hSw); go_simp; try (with_reducible rfl)
  try simp only [Act.put, List.setIfInBounds_toArray, List.set_cons_zero, List.set_cons_succ]
  refine takeW (i := 2) (v := ?_) rfl (by kernel_rfl) (by kernel_rfl) (by kernel_rfl) (by kernel_rfl) (by kernel_rfl) (fun _ _ _ h => h) hC (by rfl) ?_ ?_
  rotate_left
  · intro w hSw; (try dsimp only at hSw); go_simp; try (with_reducible rfl)
  try simp only [Act.put, List.setIfInBounds_toArray, List.set_cons_zero, List.set_cons_succ]
  refine takeW (i := 3) (v := ?_) rfl (by kernel_rfl) (by kernel_rfl) (by kernel_rfl) (by kernel_rfl) (by kernel_rfl) (fun _ _ _ h => h) hC (by rfl) ?_ ?_
  rotate_left
  · intro w hSw; (try dsimp only at hSw); go_simp; try (with_reducible rfl)
  try simp only [Act.put, List.setIfInBounds_toArray, List.set_cons_zero, List.set_cons_succ]
  refine takeW (i := 4) (v := ?_) rfl (by kernel_rfl) (by kernel_rfl) (by kernel_rfl) (by kernel_rfl) (by kernel_rfl) (fun _ _ _ h => h) hC (by rfl) ?_ ?_
  rotate_left
  · intro w hSw; (try dsimp only at hSw); go_simp; try (with_reducible rfl)
  try simp only [Act.put, List.setIfInBounds_toArray, List.set_cons_zero, List.set_cons_succ]
  refine takeW (i := 5) (v := ?_) rfl (by kernel_rfl) (by kernel_rfl) (by kernel_rfl) (by kernel_rfl) (by kernel_rfl) (fun _ _ _ h => h) hC (by rfl) ?_ ?_
  rotate_left
  · intro w hSw; (try dsimp only at hSw); go_simp; try (with_reducible rfl)
  try simp only [Act.put, List.setIfInBounds_toArray, List.set_cons_zero, List.set_cons_succ]
  refine oneT (i := 6) (by kernel_rfl) rfl (by rfl) (fun K hK => ?_)
  go_simp
  refine HS.out.mono ?_
  rintro e w' ⟨rfl, hn⟩
  refine hK.out _ _ (fun h => absurd h (by decide)) ?_
  clear hK K
  refine doneT (by kernel_rfl) ?_
  (try simp only [Exit.inBlock, Exit.then])
  refine bodyPost_end (results_none rfl _ _ _) rfl ?_
  exact ⟨rfl, gone_drew hn⟩
theorem fin2_walk (h : WS d FW w s) (hf : Fit s) (hB : Tk w B a d.W me) (hC : w.cell? ⟨C, 0, none⟩ = some (.int .i64 r)) :
    Calls Tryz.prog 160 #[ptr B, ptr C] w fun e w' => e = .returned (.tuple #[]) ∧ NxW d FW w (gSetMark r s).2 w' := by
  have h0 := hB.c1
  have h2 := h.cells.1
  have HS := Lib.hid (nxW_setMark (drew_W h) hf.ok r)
  have hC0 : w.drew.cell? ⟨B, 1, none⟩ = some (ptr d.W) ∧ w.drew.cell? ⟨C, 0, none⟩ = some (.int .i64 r) ∧ w.drew.cell? ⟨d.W, 0, none⟩ = some (ptr d.A) := ⟨h0, hC, h2⟩
  clear hB h h0 h2 hC
  go_enter Tryz.func160, Tryz.ntmps160
  refine region_T (fun k => Nat.ble 6 k) (fun w' => w'.cell? ⟨B, 1, none⟩ = some (ptr d.W) ∧ w'.cell? ⟨C, 0, none⟩ = some (.int .i64 r) ∧ w'.cell? ⟨d.W, 0, none⟩ = some (ptr d.A)) (by kernel_rfl) ?_
  have hC := hC0
  refine takeW (i := 0) (v := ?_) rfl (by kernel_rfl) (by kernel_rfl) (by kernel_rfl) (by kernel_rfl) (by kernel_rfl) (fun _ _ _ h => h) hC (by rfl) ?_ ?_
  rotate_left
  · intro w hSw; (try dsimp only at hSw); go_simp; try (with_reducible rfl)
  try simp only [Act.put, List.setIfInBounds_toArray, List.set_cons_zero, List.set_cons_succ]
  refine takeW (i := 1) (v := ?_) rfl (by kernel_rfl) (by kernel_rfl) (by kernel_rfl) (by kernel_rfl) (by kernel_rfl) (fun _ _ _ h => h) hC (by rfl) ?_ ?_
  rotate_left
  · intro w hSw; (try dsimp only at hSw); go_simp; try (with_reducible rfl)
  try simp only [Act.put, List.setIfInBounds_toArray, List.set_cons_zero, List.set_cons_succ]
  refine takeW (i := 2) (v := ?_) rfl (by kernel_rfl) (by kernel_rfl) (by kernel_rfl) (by kernel_rfl) (by kernel_rfl) (fun _ _ _ h => h) hC (by rfl) ?_ ?_
  rotate_left
  · intro w hSw; (try dsimp only at hSw); go_simp; try (with_reducible rfl)
  try simp only [Act.put, List.setIfInBounds_toArray, List.set_cons_zero, List.set_cons_succ]
  refine takeW (i := 3) (v := ?_) rfl (by kernel_rfl) (by kernel_rfl) (by kernel_rfl) (by kernel_rfl) (by kernel_rfl) (fun _ _ _ h => h) hC (by rfl) ?_ ?_
  rotate_left
  · intro w hSw; (try dsimp only at hSw); go_simp; try (with_reducible rfl)
  try simp only [Act.put, List.setIfInBounds_toArray, List.set_cons_zero, List.set_cons_succ]
  refine takeW (i := 4) (v := ?_) rfl (by kernel_rfl) (by kernel_rfl) (by kernel_rfl) (by kernel_rfl) (by kernel_rfl) (fun _ _ _ h => h) hC (by rfl) ?_ ?_
  rotate_left
  · intro w hSw; (try dsimp only at hSw); go_simp; try (with_reducible rfl)
  try simp only [Act.put, List.setIfInBounds_toArray, List.set_cons_zero, List.set_cons_succ]
  refine takeW (i := 5) (v := ?_) rfl (by kernel_rfl) (by kernel_rfl) (by kernel_rfl) (by kernel_rfl) (by kernel_rfl) (fun _ _ _ h => h) hC (by rfl) ?_ ?_
  rotate_left
  · intro w hSw; (try dsimp only at hSw); go_simp; try (with_reducible rfl)
  try simp only [Act.put, List.setIfInBounds_toArray, List.set_cons_zero, List.set_cons_succ]
  refine oneT (i := 6) (by kernel_rfl) rfl (by rfl) (fun K hK => ?_)
  go_simp
  refine HS.out.mono ?_
  rintro e w' ⟨rfl, hn⟩
  refine hK.out _ _ (fun h => absurd h (by decide)) ?_
  clear hK K
  refine doneT (by kernel_rfl) ?_
  (try simp only [Exit.inBlock, Exit.then])
  refine bodyPost_end (results_none rfl _ _ _) rfl ?_
  exact ⟨rfl, gone_drew hn⟩
theorem set1_walk {t : Int} (h : WS d FW w s) (hf : Fit s) (hB : Tk w B a d.W me) (hC : w.cell? ⟨C, 0, none⟩ = some (.int .i64 n)) (hD : w.cell? ⟨D, 0, none⟩ = some (.int .u8 t)) :
    Calls Tryz.prog 166 #[ptr B, ptr C, ptr D] w fun e w' => e = .returned (.tuple #[]) ∧ NxW d FW w (gSet n t s).2 w' := by
  have h0 := hB.c1
  have h2 := h.cells.2.1
  have HS := Lib.hid (nxW_set (drew_W h) hf.rc.1 n t)
  have hC0 : w.drew.cell? ⟨B, 1, none⟩ = some (ptr d.W) ∧ w.drew.cell? ⟨C, 0, none⟩ = some (.int .i64 n) ∧ w.drew.cell? ⟨D, 0, none⟩ = some (.int .u8 t) ∧ w.drew.cell? ⟨d.W, 1, none⟩ = some (ptr d.R) := ⟨h0, hC, hD, h2⟩
  clear hB h h0 h2 hC hD
  go_enter Tryz.func166, Tryz.ntmps166
  refine region_T (fun k => Nat.ble 7 k) (fun w' => w'.cell? ⟨B, 1, none⟩ = some (ptr d.W) ∧ w'.cell? ⟨C, 0, none⟩ = some (.int .i64 n) ∧ w'.cell? ⟨D, 0, none⟩ = some (.int .u8 t) ∧ w'.cell? ⟨d.W, 1, none⟩ = some (ptr d.R)) (by kernel_rfl) ?_
  have hC := hC0
  refine takeW (i := 0) (v := ?_) rfl (by kernel_rfl) (by kernel_rfl) (by kernel_rfl) (by kernel_rfl) (by kernel_rfl) (fun _ _ _ h => h) hC (by rfl) ?_ ?_
  rotate_left
  · intro w hSw; (try dsimp only at hSw); go_simp; try (with_reducible rfl)
  try simp only [Act.put, List.setIfInBounds_toArray, List.set_cons_zero, List.set_cons_succ]
  refine takeW (i := 1) (v := ?_) rfl (by kernel_rfl) (by kernel_rfl) (by kernel_rfl) (by kernel_rfl) (by kernel_rfl) (fun _ _ _ h => h) hC (by rfl) ?_ ?_
  rotate_left
  · intro w hSw; (try dsimp only at hSw); go_simp; try (with_reducible rfl)
  try simp only [Act.put, List.setIfInBounds_toArray, List.set_cons_zero, List.set_cons_succ]
  refine takeW (i := 2) (v := ?_) rfl (by kernel_rfl) (by kernel_rfl) (by kernel_rfl) (by kernel_rfl) (by kernel_rfl) (fun _ _ _ h => h) hC (by rfl) ?_ ?_
  rotate_left
  · intro w hSw; (try dsimp only at hSw); go_simp; try (with_reducible rfl)
  try simp only [Act.put, List.setIfInBounds_toArray, List.set_cons_zero, List.set_cons_succ]
  refine takeW (i := 3) (v := ?_) rfl (by kernel_rfl) (by kernel_rfl) (by kernel_rfl) (by kernel_rfl) (by kernel_rfl) (fun _ _ _ h => h) hC (by rfl) ?_ ?_
  rotate_left
  · intro w hSw; (try dsimp only at hSw); go_simp; try (with_reducible rfl)
  try simp only [Act.put, List.setIfInBounds_toArray, List.set_cons_zero, List.set_cons_succ]
  refine takeW (i := 4) (v := ?_) rfl (by kernel_rfl) (by kernel_rfl) (by kernel_rfl) (by kernel_rfl) (by kernel_rfl) (fun _ _ _ h => h) hC (by rfl) ?_ ?_
  rotate_left
  · intro w hSw; (try dsimp only at hSw); go_simp; try (with_reducible rfl)
  try simp only [Act.put, List.setIfInBounds_toArray, List.set_cons_zero, List.set_cons_succ]
  refine takeW (i := 5) (v := ?_) rfl (by kernel_rfl) (by kernel_rfl) (by kernel_rfl) (by kernel_rfl) (by kernel_rfl) (fun _ _ _ h => h) hC (by rfl) ?_ ?_
  rotate_left
  · intro w hSw; (try dsimp only at hSw); go_simp; try (with_reducible rfl)
  try simp only [Act.put, List.setIfInBounds_toArray, List.set_cons_zero, List.set_cons_succ]
  refine takeW (i := 6) (v := ?_) rfl (by kernel_rfl) (by kernel_rfl) (by kernel_rfl) (by kernel_rfl) (by kernel_rfl) (fun _ _ _ h => h) hC (by rfl) ?_ ?_
  rotate_left
  · intro w hSw; (try dsimp only at hSw); go_simp; try (with_reducible rfl)
  try simp only [Act.put, List.setIfInBounds_toArray, List.set_cons_zero, List.set_cons_succ]
  refine oneT (i := 7) (by kernel_rfl) rfl (by rfl) (fun K hK => ?_)
  go_simp
  refine HS.out.mono ?_
  rintro e w' ⟨rfl, hn⟩
  refine hK.out _ _ (fun h => absurd h (by decide)) ?_
  clear hK K
  refine doneT (by kernel_rfl) ?_
  (try simp only [Exit.inBlock, Exit.then])
  refine bodyPost_end (results_none rfl _ _ _) rfl ?_
  exact ⟨rfl, gone_drew hn⟩
theorem fin3_walk {b off m c : Nat} {v : Value} {wy od nw kp : Int} (h : WS d FW w s) (hf : Fit s) (hB : Tk w B a d.W me) (hC : Six w C (.slice (some ⟨b, off, none⟩) m c) v kp wy od nw) (hm : 0 < m) (hD : w.cell? ⟨b, off, none⟩ = some (.int .i64 r)) :
    Calls Tryz.prog 162 #[ptr B, ptr C] w fun e w' => e = .returned (boolV (gSwapWay r wy od nw s).1) ∧ NxW d FW w (gSwapWay r wy od nw s).2 w' := by
  have h0 := hB.c1
  have h2 := h.cells.1
  obtain ⟨x0, x1, x2, x3, x4, x5⟩ := hC.cells
  have HS := Lib.hid (nxW_swapWay (drew_W h) hf.ok r wy od nw)
  have i0 : (0 : Int) < (m : Int) := by omega
  have hC0 : w.drew.cell? ⟨B, 1, none⟩ = some (ptr d.W) ∧ w.drew.cell? ⟨C, 0, none⟩ = some (.slice (some ⟨b, off, none⟩) m c) ∧ w.drew.cell? ⟨C, 3, none⟩ = some (.int .i64 wy) ∧ w.drew.cell? ⟨C, 4, none⟩ = some (.int .i64 od) ∧ w.drew.cell? ⟨C, 5, none⟩ = some (.int .i64 nw) ∧ w.drew.cell? ⟨b, off, none⟩ = some (.int .i64 r) ∧ w.drew.cell? ⟨d.W, 0, none⟩ = some (ptr d.A) := ⟨h0, x0, x3, x4, x5, hD, h2⟩
  clear hB h h0 h2 hC x0 x1 x2 x3 x4 x5 hD
  go_enter Tryz.func162, Tryz.ntmps162
  go_wp2_with fail
  refine region_T (fun k => Nat.ble 15 k) (fun w' => w'.cell? ⟨B, 1, none⟩ = some (ptr d.W) ∧ w'.cell? ⟨C, 0, none⟩ = some (.slice (some ⟨b, off, none⟩) m c) ∧ w'.cell? ⟨C, 3, none⟩ = some (.int .i64 wy) ∧ w'.cell? ⟨C, 4, none⟩ = some (.int .i64 od) ∧ w'.cell? ⟨C, 5, none⟩ = some (.int .i64 nw) ∧ w'.cell? ⟨b, off, none⟩ = some (.int .i64 r) ∧ w'.cell? ⟨d.W, 0, none⟩ = some (ptr d.A)) (by kernel_rfl) ?_
  have hC := hC0
  refine takeW (i := 0) (v := ?_) rfl (by kernel_rfl) (by kernel_rfl) (by kernel_rfl) (by kernel_rfl) (by kernel_rfl) (fun _ _ _ h => h) hC (by rfl) ?_ ?_
  rotate_left
  · intro w hSw; (try dsimp only at hSw); go_simp; try (with_reducible rfl)
  try simp only [Act.put, List.setIfInBounds_toArray, List.set_cons_zero, List.set_cons_succ]
  refine takeW (i := 1) (v := ?_) rfl (by kernel_rfl) (by kernel_rfl) (by kernel_rfl) (by kernel_rfl) (by kernel_rfl) (fun _ _ _ h => h) hC (by rfl) ?_ ?_
  rotate_left
  · intro w hSw; (try dsimp only at hSw); go_simp; try (with_reducible rfl)
  try simp only [Act.put, List.setIfInBounds_toArray, List.set_cons_zero, List.set_cons_succ]
  refine takeW (i := 2) (v := ?_) rfl (by kernel_rfl) (by kernel_rfl) (by kernel_rfl) (by kernel_rfl) (by kernel_rfl) (fun _ _ _ h => h) hC (by rfl) ?_ ?_
  rotate_left
  · intro w hSw; (try dsimp only at hSw); go_simp; try (with_reducible rfl)
  try simp only [Act.put, List.setIfInBounds_toArray, List.set_cons_zero, List.set_cons_succ]
  refine takeW (i := 3) (v := ?_) rfl (by kernel_rfl) (by kernel_rfl) (by kernel_rfl) (by kernel_rfl) (by kernel_rfl) (fun _ _ _ h => h) hC (by rfl) ?_ ?_
  rotate_left
  · intro w hSw; (try dsimp only at hSw); go_simp; try (with_reducible rfl)
  try simp only [Act.put, List.setIfInBounds_toArray, List.set_cons_zero, List.set_cons_succ]
  refine takeW (i := 4) (v := ?_) rfl (by kernel_rfl) (by kernel_rfl) (by kernel_rfl) (by kernel_rfl) (by kernel_rfl) (fun _ _ _ h => h) hC (by rfl) ?_ ?_
  rotate_left
  · intro w hSw; (try dsimp only at hSw); go_simp; try (with_reducible rfl)
  try simp only [Act.put, List.setIfInBounds_toArray, List.set_cons_zero, List.set_cons_succ]
  refine takeW (i := 5) (v := ?_) rfl (by kernel_rfl) (by kernel_rfl) (by kernel_rfl) (by kernel_rfl) (by kernel_rfl) (fun _ _ _ h => h) hC (by rfl) ?_ ?_
  rotate_left
  · intro w hSw; (try dsimp only at hSw); go_simp; try (with_reducible rfl)
  try simp only [Act.put, List.setIfInBounds_toArray, List.set_cons_zero, List.set_cons_succ]
  refine takeW (i := 6) (v := ?_) rfl (by kernel_rfl) (by kernel_rfl) (by kernel_rfl) (by kernel_rfl) (by kernel_rfl) (fun _ _ _ h => h) hC (by rfl) ?_ ?_
  rotate_left
  · intro w hSw; (try dsimp only at hSw); go_simp; try (with_reducible rfl)
  try simp only [Act.put, List.setIfInBounds_toArray, List.set_cons_zero, List.set_cons_succ]
  refine takeW (i := 7) (v := ?_) rfl (by kernel_rfl) (by kernel_rfl) (by kernel_rfl) (by kernel_rfl) (by kernel_rfl) (fun _ _ _ h => h) hC (by rfl) ?_ ?_
  rotate_left
  · intro w hSw; (try dsimp only at hSw); go_simp; try (with_reducible rfl)
  try simp only [Act.put, List.setIfInBounds_toArray, List.set_cons_zero, List.set_cons_succ]
  refine takeW (i := 8) (v := ?_) rfl (by kernel_rfl) (by kernel_rfl) (by kernel_rfl) (by kernel_rfl) (by kernel_rfl) (fun _ _ _ h => h) hC (by rfl) ?_ ?_
  rotate_left
  · intro w hSw; (try dsimp only at hSw); go_simp; try (with_reducible rfl)
  try simp only [Act.put, List.setIfInBounds_toArray, List.set_cons_zero, List.set_cons_succ]
  refine takeW (i := 9) (v := ?_) rfl (by kernel_rfl) (by kernel_rfl) (by kernel_rfl) (by kernel_rfl) (by kernel_rfl) (fun _ _ _ h => h) hC (by rfl) ?_ ?_
  rotate_left
  · intro w hSw; (try dsimp only at hSw); go_simp; try (with_reducible rfl)
  try simp only [Act.put, List.setIfInBounds_toArray, List.set_cons_zero, List.set_cons_succ]
  refine takeW (i := 10) (v := ?_) rfl (by kernel_rfl) (by kernel_rfl) (by kernel_rfl) (by kernel_rfl) (by kernel_rfl) (fun _ _ _ h => h) hC (by rfl) ?_ ?_
  rotate_left
  · intro w hSw; (try dsimp only at hSw); go_simp; try (with_reducible rfl)
  try simp only [Act.put, List.setIfInBounds_toArray, List.set_cons_zero, List.set_cons_succ]
  refine takeW (i := 11) (v := ?_) rfl (by kernel_rfl) (by kernel_rfl) (by kernel_rfl) (by kernel_rfl) (by kernel_rfl) (fun _ _ _ h => h) hC (by rfl) ?_ ?_
  rotate_left
  · intro w hSw; (try dsimp only at hSw); go_simp; try (with_reducible rfl)
  try simp only [Act.put, List.setIfInBounds_toArray, List.set_cons_zero, List.set_cons_succ]
  refine takeW (i := 12) (v := ?_) rfl (by kernel_rfl) (by kernel_rfl) (by kernel_rfl) (by kernel_rfl) (by kernel_rfl) (fun _ _ _ h => h) hC (by rfl) ?_ ?_
  rotate_left
  · intro w hSw; (try dsimp only at hSw); go_simp; try (with_reducible rfl)
  try simp only [Act.put, List.setIfInBounds_toArray, List.set_cons_zero, List.set_cons_succ]
  refine takeW (i := 13) (v := ?_) rfl (by kernel_rfl) (by kernel_rfl) (by kernel_rfl) (by kernel_rfl) (by kernel_rfl) (fun _ _ _ h => h) hC (by rfl) ?_ ?_
  rotate_left
  · intro w hSw; (try dsimp only at hSw); go_simp; try (with_reducible rfl)
  try simp only [Act.put, List.setIfInBounds_toArray, List.set_cons_zero, List.set_cons_succ]
  refine takeW (i := 14) (v := ?_) rfl (by kernel_rfl) (by kernel_rfl) (by kernel_rfl) (by kernel_rfl) (by kernel_rfl) (fun _ _ _ h => h) hC (by rfl) ?_ ?_
  rotate_left
  · intro w hSw; (try dsimp only at hSw); go_simp; try (with_reducible rfl)
  try simp only [Act.put, List.setIfInBounds_toArray, List.set_cons_zero, List.set_cons_succ]
  refine oneT (i := 15) (by kernel_rfl) rfl (by rfl) (fun K hK => ?_)
  go_simp
  refine HS.out.mono ?_
  rintro e w' ⟨rfl, hn⟩
  refine hK.out _ _ (fun h => absurd h (by decide)) ?_
  clear hK K hC hC0 HS
  have HN := Lib.hid (gone_drew hn)
  clear hn
  try simp only [Act.put, List.setIfInBounds_toArray, List.set_cons_zero, List.set_cons_succ]
  refine oneT (i := 16) (by kernel_rfl) rfl (by rfl) (fun K hK => ?_)
  go_simp
  refine hK.out _ _ (fun h => absurd h (by decide)) ?_
  clear hK K
  try simp only [Act.put, List.setIfInBounds_toArray, List.set_cons_zero, List.set_cons_succ]
  refine doneT (by kernel_rfl) ?_
  go_wp2
  go_ret
  exact ⟨rfl, HN.out⟩
end
end Go.Proofs.YtcegianjpifnbaaGreat
