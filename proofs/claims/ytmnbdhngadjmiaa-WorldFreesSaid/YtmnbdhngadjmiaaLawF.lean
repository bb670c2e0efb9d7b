/-
  The law WorldFrees.
-/
import Derived.Test.YtmnbdhngadjmiaaLv8
import Derived.Test.YtmnbdhngadjmiaaSk8
namespace Go.Proofs.Ytmnbdhngadjmiaa
open Go.ChangeShapes Go.WideShapes Go.ChangeAt Go.RowKit
set_option linter.unusedVariables false
set_option linter.unusedSimpArgs false
set_option maxRecDepth 20000

/-- Nodes of which the first a went, behind b faults. -/
def arH (k a b : Nat) : As := ⟨40, rootPa :: entryPa :: (List.range k).map (fun i => if i < a then Pa.gone 1 else tagPa false), (List.range a).map (· + 2), b⟩
theorem arH_zero (k : Nat) : arH k 0 0 = arK 40 (fun _ => false) k := by simp [arH, arK]
theorem arH_len (k a b : Nat) : (arH k a b).pls.length = k + 2 ∧ (arH k a b).fr.length = a := by simp [arH]
theorem arH_at {k i : Nat} (a b : Nat) (h : i < k) : (arH k a b).pls[i + 2]? = some (if i < a then Pa.gone 1 else tagPa false) := by simp [arH, h]
theorem ref_pl (i : Nat) (h : i ≤ 1000) : (pl (mk ((i + 2 : Nat) : Int) 1)).toNat = i + 2 := by rw [pl_mk]; omega
theorem ref_ne (i : Nat) (h : i ≤ 1000) : mk ((i + 2 : Nat) : Int) 1 ≠ 0 := by unfold mk; omega
theorem arH_yes {k a : Nat} (b : Nat) (h : a < k) (hk : k ≤ 1000) : (arH k a b).drop (mk ((a + 2 : Nat) : Int) 1) = (1, arH k (a + 1) b) := by
  have hh : (arH k a b).hit (mk ((a + 2 : Nat) : Int) 1) = some (a + 2, tagPa false) := by
    unfold As.hit
    rw [ref_pl a (by omega), arH_at a b h, if_neg (by omega)]
    simp only
    rw [if_pos ⟨rfl, rfl⟩]
  unfold As.drop
  rw [hh]
  simp only
  refine Prod.ext rfl ?_
  simp only [As.free]
  have e1 : (arH k a b).pls.set (a + 2) (Pa.gone (tagPa false).cnt) = (arH k (a + 1) b).pls := by
    apply List.ext_getElem?
    intro j
    rw [List.getElem?_set]
    by_cases e : a + 2 = j
    · subst e
      rw [if_pos rfl, if_pos (by rw [(arH_len k a b).1]; omega), arH_at (a + 1) b h, if_pos (by omega)]
      rfl
    · rw [if_neg e]
      match j, e with
      | 0, _ => rfl
      | 1, _ => rfl
      | j + 2, e =>
        by_cases hj : j < k
        · rw [arH_at a b hj, arH_at (a + 1) b hj]
          by_cases h2 : j < a
          · rw [if_pos h2, if_pos (by omega)]
          · rw [if_neg h2, if_neg (by omega)]
        · simp [arH, hj]
  have e2 : (arH k a b).fr ++ [a + 2] = (arH k (a + 1) b).fr := by simp [arH, List.range_succ]
  show (⟨40, (arH k a b).pls.set (a + 2) (Pa.gone (tagPa false).cnt), (arH k a b).fr ++ [a + 2], b⟩ : As) = _
  rw [e1, e2]
  rfl
theorem arH_no {k a i : Nat} (b : Nat) (h : i < a) (hk : a ≤ k) (hk2 : k ≤ 1000) : (arH k a b).drop (mk ((i + 2 : Nat) : Int) 1) = (0, arH k a (b + 1)) := by
  have hh : (arH k a b).hit (mk ((i + 2 : Nat) : Int) 1) = none := by
    unfold As.hit
    rw [ref_pl i (by omega), arH_at a b (by omega), if_pos h]
    simp only
    rw [if_neg]
    rintro ⟨h1, _⟩
    cases h1
  unfold As.drop
  rw [hh]
  rfl
/-- The epoch in which node i was let go. -/
def atF (l : List Int) (i : Nat) : Int := l.getD i 0 % 10
theorem atF_b (l : List Int) (i : Nat) : 0 ≤ atF l i ∧ atF l i ≤ 9 := by unfold atF; omega
def qF (l : List Int) (k : Nat) : List (Int × Int) := (List.range k).map fun (i : Nat) => (mk ((i + 2 : Nat) : Int) 1, atF l i)
theorem qF_snoc (l : List Int) (k : Nat) : qF l (k + 1) = qF l k ++ [(mk ((k + 2 : Nat) : Int) 1, atF l k)] := by simp [qF, List.range_succ]
theorem qF_len (l : List Int) (k : Nat) : (qF l k).length = k := by simp [qF]
theorem qF_drop (l : List Int) {k a : Nat} (h : a < k) : (qF l k).drop a = (mk ((a + 2 : Nat) : Int) 1, atF l a) :: (qF l k).drop (a + 1) := by
  have hl : a < (qF l k).length := by rw [qF_len]; exact h
  rw [List.drop_eq_getElem_cons hl]
  simp [qF]
/-- What all share: k nodes made, a of them freed, b faults. -/
def sW (l : List Int) (k a b : Nat) (now sd oth : Int) : Sig := ⟨arH k a b, now, [(sd, (qF l k).drop a), (oth, [])]⟩
theorem inv_sW (l : List Int) (k a b B : Nat) (now sd oth : Int) (hk : k ≤ 20) (ha : a ≤ k) (hb : b ≤ 20) (hB : B ≤ 900) (hn : 0 ≤ now ∧ now ≤ 50) (hs : -1 ≤ sd ∧ sd ≤ 50) (ho : -1 ≤ oth ∧ oth ≤ 50) : Inv 2 B (sW l k a b now sd oth) := by
  refine ⟨by simp [sW], by omega, by simp only [sW]; rw [(arH_len k a b).1]; omega, ?_, by simp only [sW, arH]; omega, by simp only [sW]; rw [(arH_len k a b).2]; omega, ?_, by simp only [sW]; omega, ?_, ?_⟩
  · intro p hp
    simp only [sW, arH, List.mem_cons, List.mem_map] at hp
    rcases hp with rfl | rfl | ⟨i, _, rfl⟩
    · simp only [rootPa]; omega
    · simp only [entryPa]; omega
    · split
      · simp only [Pa.gone]; omega
      · simp only [tagPa]; omega
  · intro i hi
    simp only [sW] at hi ⊢
    rw [(arH_len k a b).1]
    simp only [arH, List.mem_map, List.mem_range] at hi
    obtain ⟨j, hj, rfl⟩ := hi
    omega
  · intro x hx
    simp only [sW, List.mem_cons, List.not_mem_nil, or_false] at hx
    rcases hx with rfl | rfl <;> (unfold in64; simp only; omega)
  · intro x hx
    simp only [sW, List.mem_cons, List.not_mem_nil, or_false] at hx
    rcases hx with rfl | rfl
    · refine ⟨by simp only [List.length_drop, qF_len]; omega, fun p hp => ?_⟩
      have hp := List.mem_of_mem_drop hp
      obtain ⟨i, _, rfl⟩ := List.mem_map.1 hp
      have h1 := mk_range ((i + 2 : Nat) : Int) 1
      have h2 := atF_b l i
      exact ⟨by unfold in64; simp only; omega, by unfold in64; simp only; omega⟩
    · exact ⟨by simp only [List.length_nil]; omega, fun p hp => by cases hp⟩
/-- How many may be freed. -/
def fc (l : List Int) (n : Int) : Nat → Nat → Nat
  | 0, a => a
  | r + 1, a => if rdy (atF l a) n = true then fc l n r (a + 1) else a
theorem fc_le (l : List Int) (n : Int) (r a : Nat) : a ≤ fc l n r a ∧ fc l n r a ≤ a + r := by
  induction r generalizing a with
  | zero => exact ⟨Nat.le_refl _, Nat.le_refl _⟩
  | succ r ih =>
    simp only [fc]
    split
    · have := ih (a + 1); omega
    · omega
theorem ev_frees (l : List Int) (k : Nat) (n sd oth : Int) (hk : k ≤ 20) (r a M : Nat) (h : a + r = k) (hM : r + 1 ≤ M) : ev (tFree 0 n M) (sW l k a 0 n sd oth) = ((), sW l k (fc l n r a) 0 n sd oth, fc l n r a - a + 1) := by
  induction r generalizing a M with
  | zero =>
    obtain ⟨M, rfl⟩ : ∃ M', M = M' + 1 := ⟨M - 1, by omega⟩
    rw [ev_tFree0]
    · simp [fc]
    · intro x hx
      simp only [sW, List.getElem?_cons_zero] at hx
      injection hx with hx
      subst hx
      exact List.drop_eq_nil_of_le (by rw [qF_len]; omega)
  | succ r ih =>
    obtain ⟨M, rfl⟩ : ∃ M', M = M' + 1 := ⟨M - 1, by omega⟩
    have hq := qF_drop l (k := k) (a := a) (by omega)
    by_cases hr : rdy (atF l a) n = true
    · have e1 : gRdy 0 n (sW l k a 0 n sd oth) = (mk ((a + 2 : Nat) : Int) 1, ⟨arH k a 0, n, [(sd, (qF l k).drop (a + 1)), (oth, [])]⟩) := by
        simp only [gRdy, sW, List.getElem?_cons_zero, hq]
        rw [if_pos hr]
        rfl
      have e2 : gReady 0 n (sW l k a 0 n sd oth) = (mk ((a + 2 : Nat) : Int) 1, sW l k (a + 1) 0 n sd oth) := by
        simp only [gReady, e1]
        rw [if_neg (ref_ne a (by omega))]
        simp only [gFree]
        rw [arH_yes 0 (by omega) (by omega)]
        rfl
      simp only [tFree, ev, e2]
      rw [if_neg (ref_ne a (by omega)), ih (a + 1) M (by omega) (by omega)]
      have hf : fc l n (r + 1) a = fc l n r (a + 1) := by simp only [fc]; rw [if_pos hr]
      have := (fc_le l n r (a + 1)).1
      rw [hf]
      refine Prod.ext rfl (Prod.ext rfl ?_)
      simp only
      omega
    · have e1 : gRdy 0 n (sW l k a 0 n sd oth) = (0, sW l k a 0 n sd oth) := by
        simp only [gRdy, sW, List.getElem?_cons_zero, hq]
        rw [if_neg hr]
      have e2 : gReady 0 n (sW l k a 0 n sd oth) = (0, sW l k a 0 n sd oth) := by simp only [gReady, e1, if_true]
      have hf : fc l n (r + 1) a = a := by simp only [fc]; rw [if_neg hr]
      simp only [tFree, ev, e2, if_true]
      rw [hf]
      simp
/-- Does the epoch go on? -/
def goB (x : Bool) (nn : Nat) : Bool := !x || decide (nn = 0)
def othV (x : Bool) (nn : Nat) : Int := if x then (nn : Int) - 1 else -1
theorem ev_bfree (l : List Int) (k nn : Nat) (x : Bool) (hk : k ≤ 20) :
    ev (tBegin 1000 2 0) (sW l k 0 0 (nn : Int) (-1) (othV x nn)) = ((), sW l k (fc l ((nn + (if goB x nn then 1 else 0) : Nat) : Int) k 0) 0 ((nn + (if goB x nn then 1 else 0) : Nat) : Int) (nn : Int) (othV x nn), 5 + (if goB x nn then 1 else 0) + fc l ((nn + (if goB x nn then 1 else 0) : Nat) : Int) k 0 + 1) := by
  have hS : (gSay 0 (sW l k 0 0 (nn : Int) (-1) (othV x nn)).now (sW l k 0 0 (nn : Int) (-1) (othV x nn))).2.S = [((nn : Int), (qF l k).drop 0), (othV x nn, [])] := by simp [gSay, setSaid, sW]
  have hall : allB (nn : Int) [((nn : Int), (qF l k).drop 0), (othV x nn, [])] 2 0 = goB x nn ∧ allN (nn : Int) [((nn : Int), (qF l k).drop 0), (othV x nn, [])] 2 0 = 2 := by
    simp only [allB, allN, saidOf]
    simp only [List.getElem?_cons_zero, List.getElem?_cons_succ]
    cases x with
    | false => simp [othV, goB]
    | true =>
      by_cases h0 : nn = 0
      · subst h0; simp [othV, goB]
      · have h1 : ¬ ((nn : Int) - 1 = (nn : Int)) := by omega
        have h2 : ¬ ((nn : Int) - 1 = -1) := by omega
        simp [othV, goB, h0, h1, h2]
  have hb : bgS 2 0 (sW l k 0 0 (nn : Int) (-1) (othV x nn)) = sW l k 0 0 ((nn + (if goB x nn then 1 else 0) : Nat) : Int) (nn : Int) (othV x nn) := by
    unfold bgS
    rw [hS]
    have hn : (sW l k 0 0 (nn : Int) (-1) (othV x nn)).now = (nn : Int) := rfl
    rw [hn, hall.1]
    cases hg : goB x nn with
    | true => simp [gSay, setSaid, sW]
    | false => simp [gSay, setSaid, sW]
  have hN : bgN 2 0 (sW l k 0 0 (nn : Int) (-1) (othV x nn)) = 5 + (if goB x nn then 1 else 0) := by
    unfold bgN
    rw [hS]
    have hn : (sW l k 0 0 (nn : Int) (-1) (othV x nn)).now = (nn : Int) := rfl
    rw [hn, hall.1, hall.2]
  rw [ev_tBegin, hb, hN]
  have hnow : (sW l k 0 0 ((nn + (if goB x nn then 1 else 0) : Nat) : Int) (nn : Int) (othV x nn)).now = ((nn + (if goB x nn then 1 else 0) : Nat) : Int) := rfl
  rw [hnow, ev_frees l k _ _ _ hk k 0 1000 (by omega) (by omega)]
  refine Prod.ext rfl (Prod.ext rfl ?_)
  simp only
  omega
section
variable {d : Wd} {R R' : Nat → Prop} {w w' : World} {s : Sig} {rs : List Int} {W : World} {T : Value}
/-- A law's list of nodes beside a world. -/
structure LT (W : World) (d : Wd) (s : Sig) (T : Value) (rs : List Int) (wr : World) : Prop where
  idle : Idle d (fun b => b < W.heap.size ∨ T.ownBlock = some b) wr s
  below : Below W.heap.size W wr
  row : Row 30 0 wr T rs
  lt : ∀ b, T.ownBlock = some b → W.heap.size ≤ b
theorem LT.ow (h : LT W d s T rs w) : Ow W d s w := ⟨h.idle.mono fun b e => .inl e, h.below⟩
theorem LT.new (h : Ow W d s w) : LT W d s (.slice none 0 0) [] w := ⟨h.idle.mono fun b e => e.elim id (fun e => by cases e), h.below, Row.nil _ _ _, fun b e => by cases e⟩
theorem LT.nx {s' : Sig} (h : LT W d s T rs w) (hk : ∀ FW, WS d FW w s → NxW d FW w s' w') : LT W d s' T rs w' := by
  obtain ⟨⟨FW, h1, h2⟩, hb, hr, ht⟩ := h
  obtain ⟨k1, k2⟩ := Idle.nx h1 h2 (hk FW h1)
  exact ⟨k1, hb.trans (kp_below (k2.mono fun b e => .inl e)), own_at hr fun b e => k2.block _ (.inr e), ht⟩
theorem LT.push {r : Int} (h : LT W d s T rs w) (hl : rs.length ≤ 1000) : ∃ A' m' c' Z, (Builtin.append_ #[38, 38] 38 #[T, .slice (some ⟨w.heap.size, 0, none⟩) 1 1]).run Try.prog (w.alloc (.cells #[.int .i64 r] 30)) = .ok (.slice A' m' c') Z ∧ LT W d s (.slice A' m' c') (rs ++ [r]) Z := by
  obtain ⟨hi, hb0, hr, ht⟩ := h
  have hb := below_new w (.cells #[.int .i64 r] 30)
  have hi1 := hi.more hb (R' := fun b => b < W.heap.size ∨ T.ownBlock = some b) (fun b e => .inl e)
  have hr1 : Row 30 0 (w.alloc (.cells #[.int .i64 r] 30)) T rs := hr.alloc _
  obtain ⟨A', m', c', Z, hrun, r5, g5, l5⟩ := run_pushRf hr1 (sl_one (c_new rfl rfl)) (by simp; omega) (by simp)
  have ho : Only (fun b => b < W.heap.size ∨ T.ownBlock = some b) (w.alloc (.cells #[.int .i64 r] 30)) Z := Only.grown _ g5 fun b e => .inr e
  have hbW : Below W.heap.size W (w.alloc (.cells #[.int .i64 r] 30)) := hb0.trans (hb.mono hb0.size)
  refine ⟨A', m', c', Z, hrun, hi1.own ho ?_, ?_, r5, ?_⟩
  · rintro b (e | e)
    · exact .inl (.inl e)
    · rcases l5 b e with e' | e'
      · exact .inl (.inr e')
      · exact .inr ⟨e', (World.ownsRow.lt r5 b e).2⟩
  · refine hbW.trans ⟨ho.os, ho.tape, ho.output, ho.size, fun k hk => g5.block k (Nat.lt_of_lt_of_le hk hbW.size) fun e => ?_⟩
    have := ht k e.symm
    omega
  · intro b e
    rcases l5 b e with e' | e'
    · exact ht b e'
    · exact Nat.le_trans hbW.size e'
theorem LT.alone {α : Type} {out : α → List Int} {r : α × Sig × Nat} {e : Ending} (h : LT W d s T rs w) (hP : AloneP d (fun b => b < W.heap.size ∨ T.ownBlock = some b) w out r e w') : ∃ A n c, e = .returned (.tuple #[.slice A n c, .int .i64 ((max r.2.2 1 : Nat) : Int), .bool true]) ∧ LT W d r.2.1 T rs w' := by
  obtain ⟨A, n, c, rfl, h1, h2, h3⟩ := hP
  exact ⟨A, n, c, rfl, h2.mono fun b e => .inl e, h.below.trans (kp_below (h3.mono fun b e => .inl e)), own_at h.row fun b e => h3.block _ (.inr e), h.lt⟩
end
theorem few_sW (l : List Int) (k a b : Nat) (now sd oth : Int) (hk : k ≤ 20) : Few (sW l k a b now sd oth).S ∧ tot (sW l k a b now sd oth).S = k - a := by
  refine ⟨⟨by simp [sW], ?_⟩, by simp [sW, tot, qF_len]⟩
  intro x hx
  simp only [sW, List.mem_cons, List.not_mem_nil, or_false] at hx
  rcases hx with rfl | rfl
  · simp [qF_len]; omega
  · simp
/-- The same, with another queue. -/
def sY (l : List Int) (k a b c : Nat) (now sd oth : Int) : Sig := ⟨arH k a b, now, [(sd, (qF l k).drop c), (oth, [])]⟩
theorem inv_sY (l : List Int) (k a b c B : Nat) (now sd oth : Int) (hk : k ≤ 20) (ha : a ≤ k) (hc : c ≤ k) (hb : b ≤ 20) (hB : B ≤ 900) (hn : 0 ≤ now ∧ now ≤ 50) (hs : -1 ≤ sd ∧ sd ≤ 50) (ho : -1 ≤ oth ∧ oth ≤ 50) : Inv 2 B (sY l k a b c now sd oth) := by
  have h1 := inv_sW l k a b B now sd oth hk ha hb hB hn hs ho
  have h2 := inv_sW l k c b B now sd oth hk hc hb hB hn hs ho
  exact ⟨h1.len, h1.l64, h1.pl, h1.cnt, h1.flt, h1.frl, h1.fr, h1.now, h2.said, h2.que⟩
theorem free_sY (l : List Int) (m p f : Nat) (now sd oth : Int) (hlt : p < m) (hfm : f ≤ m) (hm : m ≤ 20) : gFree (mk ((p + 2 : Nat) : Int) 1) (sY l m (max p f) (min p f) f now sd oth) = ((if f ≤ p then 1 else 0), sY l m (max (p + 1) f) (min (p + 1) f) f now sd oth) := by
  simp only [gFree, sY]
  by_cases hpf : f ≤ p
  · rw [Nat.max_eq_left hpf, Nat.min_eq_right hpf, Nat.max_eq_left (by omega), Nat.min_eq_right (by omega), arH_yes f hlt (by omega), if_pos hpf]
  · rw [Nat.max_eq_right (by omega), Nat.min_eq_left (by omega), Nat.max_eq_right (by omega), Nat.min_eq_left (by omega), arH_no p (by omega) hfm (by omega), if_neg hpf]
set_option maxHeartbeats 4000000 in
theorem worldFrees_walk (A : Option Addr) (n c : Nat) (l : List Int) (y : Nat) (hy : y < 256) (x : Bool) (w : World) (hs : Sk .u8 0 255 w A n l) :
    Calls Try.prog 5 #[.slice A n c, .int .u8 (y : Int), .bool x] w fun e w' => e = .returned (.bool true) ∧ Below w.heap.size w w' := by
  have hmax2 : (n : Int) ≤ 9223372036854775807 := by have := hs.max; unfold maxLen at this; omega
  have HSK := Lib.hid hs
  have hnl := Lib.hid hs.len
  clear hs
  obtain ⟨nn, hnn, hnn12⟩ : ∃ nn : Nat, y % 12 = nn ∧ nn < 12 := ⟨_, rfl, Nat.mod_lt _ (by omega)⟩
  have d2 : (y : Int).tmod 12 = (nn : Int) := by rw [← hnn, Int.tmod_eq_emod_of_nonneg (by omega)]; rfl
  have w2 : IntKind.i64.wrap (nn : Int) = (nn : Int) := IntWalk.i64_in _ (by omega)
  have w3 : IntKind.u8.wrap (nn : Int) = (nn : Int) := by simp only [IntKind.wrap_u8]; omega
  have w4 : IntKind.i64.wrap ((nn : Int) - 1) = (nn : Int) - 1 := IntWalk.i64_in _ (by omega)
  have w5 : IntKind.i64.wrap ((nn : Int) + 1) = (nn : Int) + 1 := IntWalk.i64_in _ (by omega)
  clear hnn
  have HZ : Hid (∀ j : Nat, j < n → ∀ u, Below w.heap.size w u → ∃ b off z, A = some ⟨b, off, none⟩ ∧ u.cell? ⟨b, off + j, none⟩ = some (.int .u8 z) ∧ z.tmod 10 = atF l j ∧ IntKind.u8.wrap (atF l j) = atF l j ∧ IntKind.i64.wrap (atF l j) = atF l j ∧ IntKind.i64.wrap (atF l j + 3) = atF l j + 3) := by
    intro j hj u hb
    obtain ⟨b, off, z, e, hz, z1, z2, hc⟩ := HSK.out.in_ hb hj
    have hg : l.getD j 0 = z := by simp [List.getD, hz]
    have hb2 := atF_b l j
    refine ⟨b, off, z, e, hc, ?_, by simp only [IntKind.wrap_u8]; omega, IntWalk.i64_in _ (by omega), IntWalk.i64_in _ (by omega)⟩
    unfold atF
    rw [hg, Int.tmod_eq_emod_of_nonneg z1]
  clear HSK
  go_enter Try.func5, Try.ntmps5
  go_wp2_with fail
  refine (awake_walk w).mono ?_
  rintro e v1 ⟨rfl, b1⟩
  by_cases h2 : 20 < n
  · have i2 : (20 : Int) < (n : Int) := by omega
    go_wp2
    go_ret
    exact ⟨rfl, b1⟩
  have i2 : ¬ (20 : Int) < (n : Int) := by omega
  go_wp2_with fail
  refine (some_walk (L := 2) (m := 40) b1 (by decide) (by decide)).mono ?_
  rintro e v2 ⟨d, rfl, hO⟩
  have HL : Hid (LT w d (sW l 0 0 0 0 (-1) (-1)) (.slice none 0 0) (refK 0) v2) := LT.new hO
  clear hO b1
  go_wp2_with fail
  go_loopg [30, 8] n (fun gk i tv wr => ∃ (j : Nat) (B : Option Addr) (m q : Nat), j + gk = n ∧ i = .int .i64 (j : Int) ∧ tv = .slice B m q ∧ Hid (LT w d (sW l j 0 0 0 (-1) (-1)) (.slice B m q) (refK j) wr))
  case atStart => exact ⟨0, none, 0, 0, by omega, rfl, rfl, HL.out⟩
  case round =>
    clear HL
    obtain ⟨j, B, m, q, hj, rfl, rfl, HH⟩ := hrel
    by_cases hlt : j < n
    case pos =>
      have i1 : (j : Int) < (n : Int) := by omega
      have i0 : (0 : Int) ≤ (j : Int) := by omega
      have hkw : IntKind.i64.wrap ((j : Int) + 1) = (j : Int) + 1 := IntWalk.i64_in _ (by omega)
      obtain ⟨b, off, z, rfl, hc, t1, t2, t3, -⟩ := HZ.out j hlt wr HH.out.below
      obtain ⟨g0, g1, g2, g3, g4, g5⟩ := HH.out.ow.cells
      obtain ⟨FW, k1, k2⟩ := HH.out.idle
      have hI : ∀ j, j ≤ 20 → Inv 2 1 (sW l j 0 0 0 (-1) (-1)) := fun j hj => inv_sW l j 0 0 1 0 (-1) (-1) hj (by omega) (by omega) (by omega) (by omega) (by omega) (by omega)
      have hfit := (hI j (by omega)).fit
      have S1 := nxW_make k1 hfit.ok hfit.fr (RdF.nil FW wr false false) (by unfold Nd.small; simp)
      obtain ⟨r, hr⟩ : ∃ r, mk ((j + 2 : Nat) : Int) 1 = r := ⟨_, rfl⟩
      have hmk : gMake ⟨false, false, [], [], []⟩ (sW l j 0 0 0 (-1) (-1)) = (r, ⟨arH (j + 1) 0 0, 0, [(-1, (qF l j).drop 0), (-1, [])]⟩) := by
        have := arK_make 40 (fun _ => false) j (by omega)
        simp only [gMake, sW]
        rw [arH_zero, arH_zero, show (⟨false, false, [], [], []⟩ : Nd) = tagNd false from rfl, this, hr]
      rw [hmk] at S1
      have S1 := Lib.hid S1
      have HM : Hid (∀ w', NxW d FW wr ⟨arH (j + 1) 0 0, 0, [(-1, (qF l j).drop 0), (-1, [])]⟩ w' → LT w d ⟨arH (j + 1) 0 0, 0, [(-1, (qF l j).drop 0), (-1, [])]⟩ (.slice B m q) (refK j) w') := by
        intro w' hn
        have hL := HH.out
        obtain ⟨q1, q2⟩ := Idle.nx k1 k2 hn
        exact ⟨q1, hL.below.trans (kp_below (q2.mono fun b e => .inl e)), own_at hL.row fun b e => q2.block _ (.inr e), hL.lt⟩
      have hI2 : Inv 2 1 ⟨arH (j + 1) 0 0, 0, [(-1, (qF l j).drop 0), (-1, [])]⟩ := by
        have h1 := hI j (by omega)
        have h2 := hI (j + 1) (by omega)
        exact ⟨rfl, by omega, h2.pl, h2.cnt, h2.flt, h2.frl, h2.fr, h2.now, h1.said, h1.que⟩
      have HLV : Hid (∀ W' (B' : Option Addr) (m' q' : Nat), LT w d ⟨arH (j + 1) 0 0, 0, [(-1, (qF l j).drop 0), (-1, [])]⟩ (.slice B' m' q') (refK (j + 1)) W' → Calls Try.prog 30 #[ptr d.E, .int .i64 0, .int .i64 r, .int .i64 (atF l j)] W' fun e w' => e = .returned (.tuple #[]) ∧ LT w d (sW l (j + 1) 0 0 0 (-1) (-1)) (.slice B' m' q') (refK (j + 1)) w') := by
        intro W' B' m' q' hL
        obtain ⟨FW', p1, p2⟩ := hL.idle
        refine (nxW_leave (me := 0) p1 hI2.fit (by simp) r (atF l j)).mono ?_
        rintro e w' ⟨rfl, hn⟩
        refine ⟨rfl, ?_⟩
        have e : (gLeave 0 r (atF l j) ⟨arH (j + 1) 0 0, 0, [(-1, (qF l j).drop 0), (-1, [])]⟩).2 = sW l (j + 1) 0 0 0 (-1) (-1) := by
          simp only [gLeave, sW, List.getElem?_cons_zero, List.drop_zero]
          rw [qF_snoc, hr]
          rfl
        rw [e] at hn
        obtain ⟨q1, q2⟩ := Idle.nx p1 p2 hn
        exact ⟨q1, hL.below.trans (kp_below (q2.mono fun b e => .inl e)), own_at hL.row fun b e => q2.block _ (.inr e), hL.lt⟩
      have HR := Lib.hid hr
      clear HH k1 k2 g1 g2 g3 g4 g5 hfit hmk hI hI2 hr
      go_wp2_with fail
      refine S1.out.mono ?_
      rintro e u1 ⟨bb, rfl, hn⟩
      have hL := HM.out u1 hn
      clear S1 HM hn g0 hc
      obtain ⟨A', m', c', Z, hrun, hZ⟩ := hL.push (r := r) (by rw [refK_len]; omega)
      have H : Hid (LT w d ⟨arH (j + 1) 0 0, 0, [(-1, (qF l j).drop 0), (-1, [])]⟩ (.slice A' m' c') (refK (j + 1)) Z) := by
        rw [refK_snoc, HR.out]; exact hZ
      obtain ⟨g0, g1, g2, g3, g4, g5⟩ := hZ.ow.cells
      clear hL hZ HR g0 g1 g3 g4 g5
      go_wp2_with (first | (at_builtin; refine Lib.wpList_append_run _ rfl _ _ _ _ rfl _ _ rfl rfl _ _ hrun ?_) | fail)
      refine (HLV.out Z A' m' c' H.out).mono ?_
      rintro e u2 ⟨rfl, hL2⟩
      have H2 := Lib.hid hL2
      clear HLV H hL2 hrun
      go_wp2
      go_roundg (gk - 1)
      case measure => omega
      case rel => exact ⟨j + 1, A', m', c', by omega, by go_num, rfl, H2.out⟩
    have i1 : ¬ ((j : Int) < (n : Int)) := by omega
    obtain rfl : j = n := by omega
    have HL : Hid (LT w d (sW l j 0 0 ((0 : Nat) : Int) (-1) (-1)) (.slice B m q) (refK j) wr) := HH.out
    clear HH hj
    go_wp2_with fail
    go_loopg [61] nn (fun gk i wr => ∃ k : Nat, k + gk = nn ∧ i = .int .i64 (k : Int) ∧ Hid (LT w d (sW l j 0 0 (k : Int) (-1) (-1)) (.slice B m q) (refK j) wr))
    case atStart => exact ⟨0, by omega, rfl, HL.out⟩
    case round =>
      clear HL
      obtain ⟨k, hk, rfl, HH⟩ := hrel
      by_cases hltk : k < nn
      case pos =>
        have i3 : (k : Int) < (nn : Int) := by omega
        have hkw : IntKind.i64.wrap ((k : Int) + 1) = (k : Int) + 1 := IntWalk.i64_in _ (by omega)
        obtain ⟨g0, g1, g2, g3, g4, g5⟩ := HH.out.ow.cells
        obtain ⟨FW, k1, k2⟩ := HH.out.idle
        have S1 := Lib.hid (nxW_swap k1 (inv_sW l j 0 0 0 (k : Int) (-1) (-1) (by omega) (by omega) (by omega) (by omega) (by omega) (by omega) (by omega)).fit (k : Int))
        have HE : Hid (∀ w', NxW d FW wr (gSwap (k : Int) (sW l j 0 0 (k : Int) (-1) (-1))).2 w' → LT w d (sW l j 0 0 ((k + 1 : Nat) : Int) (-1) (-1)) (.slice B m q) (refK j) w') := by
          intro w' hn
          have e : (gSwap (k : Int) (sW l j 0 0 (k : Int) (-1) (-1))).2 = sW l j 0 0 ((k + 1 : Nat) : Int) (-1) (-1) := by simp [gSwap, sW]
          rw [e] at hn
          have hL := HH.out
          obtain ⟨q1, q2⟩ := Idle.nx k1 k2 hn
          exact ⟨q1, hL.below.trans (kp_below (q2.mono fun b e => .inl e)), own_at hL.row fun b e => q2.block _ (.inr e), hL.lt⟩
        clear HH k1 k2 g0 g1 g3 g4 g5
        go_wp2_with fail
        refine S1.out.mono ?_
        rintro e u1 ⟨b, rfl, -, hn⟩
        have H := Lib.hid (HE.out u1 hn)
        clear S1 HE hn
        go_wp2
        go_roundg (gk - 1)
        case measure => omega
        case rel => exact ⟨k + 1, by omega, by go_num, H.out⟩
      have i3 : ¬ ((k : Int) < (nn : Int)) := by omega
      obtain rfl : k = nn := by omega
      clear hk
      go_upto_if 71 with fail
      go_cut [] (fun wx => Hid (LT w d (sW l j 0 0 (k : Int) (-1) (othV x k)) (.slice B m q) (refK j) wx))
      case first =>
        cases x with
        | false =>
          go_wp2
          go_meet
          case rel => exact HH.out
        | true =>
          obtain ⟨g0, g1, g2, g3, g4, g5⟩ := HH.out.ow.cells
          obtain ⟨FW, k1, k2⟩ := HH.out.idle
          have S1 := Lib.hid (nxW_say (me := 1) k1 (by simp [sW]) ((k : Int) - 1))
          have HE : Hid (∀ w', NxW d FW wr (gSay 1 ((k : Int) - 1) (sW l j 0 0 (k : Int) (-1) (-1))).2 w' → LT w d (sW l j 0 0 (k : Int) (-1) (othV true k)) (.slice B m q) (refK j) w') := by
            intro w' hn
            have e : (gSay 1 ((k : Int) - 1) (sW l j 0 0 (k : Int) (-1) (-1))).2 = sW l j 0 0 (k : Int) (-1) (othV true k) := by simp [gSay, setSaid, sW, othV]
            rw [e] at hn
            have hL := HH.out
            obtain ⟨q1, q2⟩ := Idle.nx k1 k2 hn
            exact ⟨q1, hL.below.trans (kp_below (q2.mono fun b e => .inl e)), own_at hL.row fun b e => q2.block _ (.inr e), hL.lt⟩
          clear HH k1 k2 g0 g1 g3 g4 g5
          go_wp2_with fail
          refine S1.out.mono ?_
          rintro e u1 ⟨rfl, hn⟩
          have H := Lib.hid (HE.out u1 hn)
          clear S1 HE hn
          go_wp2
          go_meet
          case rel => exact H.out
      case rest =>
        clear HH
        have HL := Lib.hid hcut.out
        clear hcut
        have HS := Lib.hid (start_walk (me := 0) (g := 31) (capw := #[]) HL.out.idle)
        go_wp2_with fail
        refine HS.out.mono ?_
        clear HS
        intro e u1 hS
        have hev := ev_bfree l j k x (by omega)
        obtain ⟨gg, hgg⟩ : ∃ gg, goB x k = gg := ⟨_, rfl⟩
        rw [hgg] at hev
        have HGG := Lib.hid hgg
        obtain ⟨n1, hn1⟩ : ∃ n1 : Nat, k + (if gg then 1 else 0) = n1 := ⟨_, rfl⟩
        obtain ⟨f, hf⟩ : ∃ f : Nat, fc l (n1 : Int) j 0 = f := ⟨_, rfl⟩
        obtain ⟨tt, htt⟩ : ∃ tt : Nat, 5 + (if gg then 1 else 0) = tt := ⟨_, rfl⟩
        rw [hn1, hf, htt] at hev
        have hfj : f ≤ j := by have := (fc_le l (n1 : Int) j 0).2; omega
        have hn1b : n1 ≤ 13 := by rw [← hn1]; split <;> omega
        have httb : 5 ≤ tt ∧ tt ≤ 6 := by rw [← htt]; split <;> omega
        have hoth : -1 ≤ othV x k ∧ othV x k ≤ 50 := by unfold othV; split <;> omega
        have HF := Lib.hid hf
        have HN1 := Lib.hid hn1
        have HTT := Lib.hid htt
        clear hgg hn1 hf htt
        obtain ⟨a, rfl, hA⟩ := started_alone (B := 0) hS (fun a W => rfl) (fre1_job d _ wc (L := 2) (by omega)) HL.out.idle.lt (tame_tBegin 1000 2 0) (by rw [hev]; exact inv_sW l j 0 0 _ (k : Int) (-1) (othV x k) (by omega) (by omega) (by omega) (by simp only; omega) (by omega) (by omega) hoth) (by rw [hev]; simp only; omega) (by simp [nilOut])
        rw [hev] at hA
        have HA := Lib.hid hA
        clear hA hS hev
        go_wp2_with fail
        refine HA.out.mono ?_
        rintro e u2 ⟨hP, -⟩
        obtain ⟨A', n', c', rfl, hLT⟩ := HL.out.alone hP
        have hmx : ((max (tt + f + 1) 1 : Nat) : Int) = (tt : Int) + (f : Int) + 1 := by omega
        simp only at hLT ⊢
        rw [hmx]
        have HLT := Lib.hid hLT
        clear HA HL hP hLT hmx
        go_upto_region 24 with fail
        go_cut [91] (fun v wx => v = .bool gg ∧ u2 = wx)
        case first =>
          cases x with
          | false =>
            have hg : gg = true := by rw [← HGG.out]; rfl
            have HG := Lib.hid hg
            clear hg
            go_wp2
            go_meet
            case rel => exact ⟨by rw [HG.out], rfl⟩
          | true =>
            by_cases hk0 : k = 0
            · have b0 : ((k : Int) == 0) = true := by simpa using hk0
              have HG : Hid (gg = true) := by show _ = _; rw [← HGG.out]; simp [goB, hk0]
              clear hk0
              go_wp2
              go_meet
              case rel => exact ⟨by rw [HG.out], rfl⟩
            · have b0 : ((k : Int) == 0) = false := by simpa using hk0
              have HG : Hid (gg = false) := by show _ = _; rw [← HGG.out]; simp [goB, hk0]
              clear hk0
              go_wp2
              go_meet
              case rel => exact ⟨by rw [HG.out], rfl⟩
        case rest =>
          obtain ⟨rfl, hwc⟩ := hcut
          subst hwc
          go_upto_if 91 with fail
          go_cut [18, 13] (fun tv nv wx => tv = .int .i64 (tt : Int) ∧ nv = .int .i64 (n1 : Int) ∧ u2 = wx)
          case first =>
            cases gg with
            | true =>
              have e1 : tt = 6 := by rw [← HTT.out]; rfl
              have e2 : n1 = k + 1 := by rw [← HN1.out]; rfl
              have E1 := Lib.hid e1
              have E2 := Lib.hid e2
              clear e1 e2
              go_wp2
              go_meet
              case rel => exact ⟨by rw [E1.out]; rfl, by rw [E2.out]; go_num, rfl⟩
            | false =>
              have e1 : tt = 5 := by rw [← HTT.out]; rfl
              have e2 : n1 = k := by rw [← HN1.out]; rfl
              have E1 := Lib.hid e1
              have E2 := Lib.hid e2
              clear e1 e2
              go_wp2
              go_meet
              case rel => exact ⟨by rw [E1.out]; rfl, by rw [E2.out], rfl⟩
          case rest =>
            obtain ⟨rfl, rfl, hwc⟩ := hcut
            subst hwc
            clear HN1 HTT HGG d2 w2 w3 w4 w5
            go_wp2_with fail
            go_loopg [19] j (fun gk i wr => ∃ q : Nat, q + gk = j ∧ i = .int .i64 (q : Int) ∧ Hid (fc l (n1 : Int) gk q = f) ∧ u2 = wr)
            case atStart => exact ⟨0, by omega, rfl, HF.out, rfl⟩
            case round =>
              clear HF
              obtain ⟨qq, hqq, rfl, HF, rfl⟩ := hrel
              have hkw : IntKind.i64.wrap ((qq : Int) + 1) = (qq : Int) + 1 := IntWalk.i64_in _ (by omega)
              obtain ⟨tb, htb⟩ : ∃ tb, (decide (qq < j) && rdy (atF l qq) (n1 : Int)) = tb := ⟨_, rfl⟩
              have HTB := Lib.hid htb
              clear htb
              go_upto_region 28 with fail
              go_cut [110] (fun v wx => v = .bool tb ∧ u2 = wx)
              case first =>
                by_cases hq1 : qq < j
                · have i4 : (qq : Int) < (j : Int) := by omega
                  have i5 : (0 : Int) ≤ (qq : Int) := by omega
                  obtain ⟨b, off, z, rfl, hc, t1, t2, t3, t4⟩ := HZ.out qq hq1 u2 HLT.out.below
                  have HT2 : Hid (tb = decide (atF l qq + 3 ≤ (n1 : Int))) := by show _ = _; rw [← HTB.out]; simp [hq1, rdy]
                  generalize atF l qq = at_ at t1 t2 t3 t4 HT2
                  go_wp2
                  go_meet
                  case rel => exact ⟨by rw [HT2.out], rfl⟩
                · have i4 : ¬ (qq : Int) < (j : Int) := by omega
                  have HT2 : Hid (tb = false) := by show _ = _; rw [← HTB.out]; simp [hq1]
                  go_wp2
                  go_meet
                  case rel => exact ⟨by rw [HT2.out], rfl⟩
              case rest =>
              obtain ⟨rfl, hwc⟩ := hcut
              subst hwc
              cases tb with
              | true =>
                have hq1 : qq < j := by have h1 := HTB.out; simp at h1; exact h1.1
                have hq2 : rdy (atF l qq) (n1 : Int) = true := by have h1 := HTB.out; simp at h1; exact h1.2
                have HF2 : Hid (fc l (n1 : Int) (gk - 1) (qq + 1) = f) := by
                  have := HF.out
                  obtain ⟨g', rfl⟩ : ∃ g', gk = g' + 1 := ⟨gk - 1, by omega⟩
                  simp only [fc] at this
                  rw [if_pos hq2] at this
                  exact this
                clear HF hq2 HTB
                go_wp2
                go_roundg (gk - 1)
                case measure => omega
                case rel => exact ⟨qq + 1, by omega, by go_num, HF2.out, rfl⟩
              | false =>
              have hfq : f = qq := by
                have := HF.out
                by_cases hq1 : qq < j
                · obtain ⟨g', rfl⟩ : ∃ g', gk = g' + 1 := ⟨gk - 1, by omega⟩
                  simp only [fc] at this
                  rw [if_neg (fun e => by have h1 := HTB.out; simp [hq1, e] at h1)] at this
                  exact this.symm
                · obtain rfl : gk = 0 := by omega
                  simp only [fc] at this
                  exact this.symm
              obtain ⟨FW, p1, p2⟩ := HLT.out.idle
              obtain ⟨g0, g1, g2, g3, g4, g5⟩ := HLT.out.ow.cells
              have hInv := inv_sW l j f 0 0 (n1 : Int) (k : Int) (othV x k) (by omega) hfj (by omega) (by omega) (by omega) (by omega) hoth
              have SU := nxW_used p1 hInv.fit.ok
              have eU : ((sW l j f 0 (n1 : Int) (k : Int) (othV x k)).ar.pls.length : Int) - ((sW l j f 0 (n1 : Int) (k : Int) (othV x k)).ar.fr.length : Int) = 2 + (j : Int) - (f : Int) := by
                simp only [sW]
                rw [(arH_len j f 0).1, (arH_len j f 0).2]; omega
              rw [eU] at SU
              have SU := Lib.hid SU
              have SL : Hid (∀ W', Below u2.heap.size u2 W' → Calls Try.prog 32 #[ptr d.E] W' fun e w' => e = .returned (.int .i64 ((j : Int) - (f : Int))) ∧ W' = w') := by
                intro W' hb
                obtain ⟨f1, f2⟩ := few_sW l j f 0 (n1 : Int) (k : Int) (othV x k) (by omega)
                have := nxW_limbo (p1.below hb) f1
                rw [f2] at this
                have e : ((j - f : Nat) : Int) = (j : Int) - (f : Int) := by omega
                rw [e] at this
                exact this
              have HB2 : Hid (∀ W', Below u2.heap.size u2 W' → LT w d (sW l j f 0 (n1 : Int) (k : Int) (othV x k)) (.slice B m q) (refK j) W' ∧ W'.cell? ⟨d.W, 2, none⟩ = some (ptr d.E)) := by
                intro W' hb
                have hL := HLT.out
                have hL2 : LT w d (sW l j f 0 (n1 : Int) (k : Int) (othV x k)) (.slice B m q) (refK j) W' := ⟨hL.idle.more hb (fun b e => .inl e), hL.below.trans (hb.mono hL.below.size), own_at hL.row fun b e => hb.block _ (hL.idle.lt _ (.inr e)), hL.lt⟩
                exact ⟨hL2, hL2.ow.cells.2.2.1⟩
              have m1 : IntKind.i64.wrap ((tt : Int) + (f : Int)) = (tt : Int) + (f : Int) := IntWalk.i64_in _ (by omega)
              have m2 : IntKind.i64.wrap ((tt : Int) + (f : Int) + 1) = (tt : Int) + (f : Int) + 1 := IntWalk.i64_in _ (by omega)
              have m3 : IntKind.i64.wrap (2 + (j : Int)) = 2 + (j : Int) := IntWalk.i64_in _ (by omega)
              have m4 : IntKind.i64.wrap (2 + (j : Int) - (f : Int)) = 2 + (j : Int) - (f : Int) := IntWalk.i64_in _ (by omega)
              have m5 : IntKind.i64.wrap ((j : Int) - (f : Int)) = (j : Int) - (f : Int) := IntWalk.i64_in _ (by omega)
              subst hfq
              clear p1 p2 hInv eU HF g1 g2 g3 g4 g5 HLT hkw
              clear HTB
              go_wp2_with fail
              refine SU.out.mono ?_
              rintro e u3 ⟨rfl, hb3⟩
              obtain ⟨hL3, g2⟩ := HB2.out u3 hb3
              have SL3 := Lib.hid (SL.out u3 hb3)
              have HL3 := Lib.hid hL3
              clear SU SL HB2 hL3 hb3 g0
              go_wp2_with fail
              refine SL3.out.mono ?_
              rintro e u4 ⟨rfl, rfl⟩
              clear SL3 g2
              have HL4 : Hid (LT w d (sY l j (max 0 f) (min 0 f) f (n1 : Int) (k : Int) (othV x k)) (.slice B m q) (refK j) u3) := by
                show LT _ _ _ _ _ _
                rw [Nat.max_eq_right (Nat.zero_le _), Nat.min_eq_left (Nat.zero_le _)]
                exact HL3.out
              have hmj : m = j := by have := HL3.out.row.sl.len; rw [refK_len] at this; exact this
              subst hmj
              clear HL3 m1 m2 m3 m4 m5
              go_wp2_with fail
              go_loopg [150] m (fun gk i wr => ∃ p : Nat, p + gk = m ∧ i = .int .i64 (p : Int) ∧ Hid (LT w d (sY l m (max p f) (min p f) f (n1 : Int) (k : Int) (othV x k)) (.slice B m q) (refK m) wr))
              case atStart => exact ⟨0, by omega, rfl, HL4.out⟩
              case round =>
                clear HL4
                obtain ⟨p, hp, rfl, HH⟩ := hrel
                by_cases hlt : p < m
                case neg =>
                  have i6 : ¬ ((p : Int) < (m : Int)) := by omega
                  have HB := Lib.hid HH.out.below
                  clear HH
                  go_wp2
                  go_ret
                  exact ⟨rfl, HB.out⟩
                have i6 : (p : Int) < (m : Int) := by omega
                have i7 : (0 : Int) ≤ (p : Int) := by omega
                have hkw : IntKind.i64.wrap ((p : Int) + 1) = (p : Int) + 1 := IntWalk.i64_in _ (by omega)
                obtain ⟨b, off, rfl, hbl, hc⟩ := HH.out.row.sl.at0 hlt
                have hat := refK_at (k := m) (j := p) hlt
                have hgd : (refK m).getD p 0 = mk ((p + 2 : Nat) : Int) 1 := by simp [List.getD, hat]
                rw [hgd] at hc
                obtain ⟨g0, g1, g2, g3, g4, g5⟩ := HH.out.ow.cells
                obtain ⟨FW, p1, p2⟩ := HH.out.idle
                have hInv := inv_sY l m (max p f) (min p f) f 0 (n1 : Int) (k : Int) (othV x k) (by omega) (by omega) hfj (by omega) (by omega) (by omega) (by omega) hoth
                have S1 := nxW_free p1 hInv.fit.ok (mk ((p + 2 : Nat) : Int) 1)
                rw [free_sY l m p f _ _ _ hlt hfj (by omega)] at S1
                have S1 := Lib.hid S1
                have HE : Hid (∀ w', NxW d FW wr (sY l m (max (p + 1) f) (min (p + 1) f) f (n1 : Int) (k : Int) (othV x k)) w' → LT w d (sY l m (max (p + 1) f) (min (p + 1) f) f (n1 : Int) (k : Int) (othV x k)) (.slice (some ⟨b, off, none⟩) m q) (refK m) w') := by
                  intro w' hn
                  have hL := HH.out
                  obtain ⟨q1, q2⟩ := Idle.nx p1 p2 hn
                  exact ⟨q1, hL.below.trans (kp_below (q2.mono fun b e => .inl e)), own_at hL.row fun b e => q2.block _ (.inr e), hL.lt⟩
                clear HH p1 p2 g1 g2 g3 g4 g5 hInv hat hgd
                generalize mk ((p + 2 : Nat) : Int) 1 = r at *
                go_wp2_with fail
                refine S1.out.mono ?_
                rintro e u5 ⟨bb, rfl, hbb, hn⟩
                have H := Lib.hid (HE.out u5 hn)
                have hbv : bb = decide (f ≤ p) := by
                  rw [b2i_back hbb]
                  by_cases hpf : f ≤ p <;> simp [hpf]
                clear S1 HE hn hbb g0 hc
                by_cases hpf : f ≤ p
                · have hbt : bb = true := by rw [hbv]; simpa using hpf
                  have i8 : (f : Int) ≤ (p : Int) := by omega
                  subst hbt
                  clear hbv hpf
                  go_wp2
                  go_roundg (gk - 1)
                  case measure => omega
                  case rel => exact ⟨p + 1, by omega, by go_num, H.out⟩
                · have hbt : bb = false := by rw [hbv]; simpa using hpf
                  have i8 : ¬ (f : Int) ≤ (p : Int) := by omega
                  subst hbt
                  clear hbv hpf
                  go_wp2
                  go_roundg (gk - 1)
                  case measure => omega
                  case rel => exact ⟨p + 1, by omega, by go_num, H.out⟩
end Go.Proofs.Ytmnbdhngadjmiaa
