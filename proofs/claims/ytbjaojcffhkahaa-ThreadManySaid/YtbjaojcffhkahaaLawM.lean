/-
  The law ThreadMany.
-/
import Derived.Test.YtbjaojcffhkahaaMg6
namespace Go.Proofs.Ytbjaojcffhkahaa
open Go.ChangeShapes Go.WideShapes Go.ChangeAt Go.RowKit
set_option linter.unusedVariables false
set_option linter.unusedSimpArgs false
set_option maxRecDepth 20000

/-- Number i isn't wanted: it may be passed over first. -/
theorem skipD {P : Program} {ops : Array Oper} {Q : Exit → Act → World → Prop} {md : Region.Mode} {C : World → Prop} {st : Nat → Bool} {listed : Array Bool} (i d : Nat) {oi : Oper} {n : Nat} {a : Act} {w : World} (hi : ops[i]? = some oi) (hd : oi.dst = some d)
    (hs : Region.noSelect ops = true) (hf : Region.free md ops listed i = true) (hr : (Region.ready md ops listed).contains i = true) (hwt : waits md ops st i = true)
    (hQ : ∀ c (a : Act) t w, Q (.panic c) { a with tmps := t } w → Q (.panic c) a w) (hC : C w) (hw : Region.wanted oi (yielded ops a.tmps) = false)
    (h : anyT P md ops Q C st n (listed.setIfInBounds i true) { a with tmps := a.tmps.setIfInBounds d undef } w) : anyT P md ops Q C st (n + 1) listed a w :=
  take_now (v := undef) hi (Region.noSelect_spec hs) (fun c a w h => by rw [hd] at h; exact hQ c a _ w h) hwt n listed a w (Region.free_spec hi hf) (List.contains_iff_mem.1 hr) (.inr ⟨hw, rfl⟩) hC (by rw [hd]; exact h)

/-- A slice of n programs at A, below block B0. -/
structure Pl (B0 : Nat) (w : World) (A : Option Addr) (n : Nat) (ps : List Ps) : Prop where
  len : n = ps.length
  pg : ∀ p ∈ ps, Pg B0 w p.A p.n p.pr
  cells : ps = [] ∨ ∃ b off, A = some ⟨b, off, none⟩ ∧ b < B0 ∧ ∀ i p, ps[i]? = some p → w.cell? ⟨b, off + i, none⟩ = some (.slice p.A p.n p.cp)
/-- A slice of n bytes at A, below block B0. -/
structure Bt (B0 : Nat) (w : World) (A : Option Addr) (n : Nat) (xs : List Nat) : Prop where
  len : n = xs.length
  lt : ∀ x ∈ xs, x < 256
  cells : xs = [] ∨ ∃ b off, A = some ⟨b, off, none⟩ ∧ b < B0 ∧ ∀ (i x : Nat), xs[i]? = some x → w.cell? ⟨b, off + i, none⟩ = some (.int .u8 (x : Int))
theorem Pl.at_ {w w' : World} {A : Option Addr} {n i : Nat} {ps : List Ps} (h : Pl w.heap.size w A n ps) (hb : Below w.heap.size w w') (hi : i < n) : ∃ (b off : Nat) (p : Ps), A = some ⟨b, off, none⟩ ∧ w'.cell? ⟨b, off + i, none⟩ = some (.slice p.A p.n p.cp) ∧ Pg w.heap.size w p.A p.n p.pr := by
  have hil : i < ps.length := by rw [← h.len]; exact hi
  rcases h.cells with e | ⟨b, off, e, hbB, hc⟩
  · subst e; simp at hil
  · exact ⟨b, off, ps[i], e, below_read hb (hc i _ (List.getElem?_eq_getElem hil)), h.pg _ (List.getElem_mem hil)⟩
theorem Bt.at_ {w w' : World} {A : Option Addr} {n i : Nat} {xs : List Nat} (h : Bt w.heap.size w A n xs) (hb : Below w.heap.size w w') (hi : i < n) : ∃ (b off x : Nat), A = some ⟨b, off, none⟩ ∧ w'.cell? ⟨b, off + i, none⟩ = some (.int .u8 (x : Int)) ∧ x < 256 := by
  have hil : i < xs.length := by rw [← h.len]; exact hi
  rcases h.cells with e | ⟨b, off, e, hbB, hc⟩
  · subst e; simp at hil
  · exact ⟨b, off, xs[i], e, below_read hb (hc i _ (List.getElem?_eq_getElem hil)), h.lt _ (List.getElem_mem hil)⟩

/-- What the program says of a slice type whose elements are pointers. -/
structure RowP (sl el : TypeId) : Prop where
  under : Try.prog.underlying sl = some (.slice el)
  info : (Try.prog.info? el).map (fun i => (i.zero, i.size, i.bytes)) = some (some (.pointer none), 1, 8)
theorem rowTh : RowP 41 29 := ⟨Try.underlying41, by kernel_rfl⟩
theorem rowRn : RowP 42 31 := ⟨Try.underlying42, by kernel_rfl⟩
theorem own_shape {w : World} {base : Nat} {e : TypeId} {v : Value} {n : Nat} {xs : List Value} (h : w.ownsRow base e 1 v n xs) : ∃ A c, v = .slice A n c := by
  rcases h.2 with ⟨rfl, h0⟩ | ⟨g, cap, cur, rfl, _⟩
  · subst h0; exact ⟨_, _, rfl⟩
  · exact ⟨_, _, rfl⟩
theorem run_pushP {sl el : TypeId} (R : RowP sl el) {w : World} {base g q n : Nat} {v : Value} {xs : List Value} (hown : w.ownsRow base el 1 v n xs) (hc : w.cell? ⟨g, 0, none⟩ = some (ptr q)) (hn : n ≤ 1000) :
    ∃ A' c' w', (Builtin.append_ #[sl, sl] sl #[v, .slice (some ⟨g, 0, none⟩) 1 1]).run Try.prog w = .ok (.slice A' (n + 1) c') w' ∧ w'.ownsRow 0 el 1 (.slice A' (n + 1) c') (n + 1) (xs ++ [ptr q]) ∧ w.grownBy w' v.ownBlock ∧ ∀ b, (Value.slice A' (n + 1) c').ownBlock = some b → v.ownBlock = some b ∨ w.heap.size ≤ b := by
  obtain ⟨i0, hi0, hz0, hz1, hz2⟩ := info_parts R.info
  obtain ⟨v', w', h1, h2, h3, h4⟩ := run_push (w := w) sl sl el i0 _ 1 8 R.under hi0 hz0 hz1 hz2 rfl (by omega) v n xs (own_lower hown (Nat.zero_le _)) ⟨g, 0, none⟩ 1 1 [ptr q] rfl (by
    intro j u hj
    match j, hj with
    | 0, hj => simp at hj; subst hj; rw [add_lit0]; exact hc) (by intro u hu; simp at hu; subst hu; rfl) (by unfold maxLen; omega) (by omega)
  obtain ⟨A', c', rfl⟩ := own_shape h2
  exact ⟨A', c', w', h1, h2, h3, h4⟩

set_option maxHeartbeats 8000000 in
theorem threadMany_walk (A : Option Addr) (n cp : Nat) (ps : List Ps) (A1 : Option Addr) (no co : Nat) (xs : List Nat) (z : Int) (w : World) (hps : Pl w.heap.size w A n ps) (hxs : Bt w.heap.size w A1 no xs) (hwf : (Lit.int .i8 z).wf = true) :
    Calls Try.prog 4 #[.slice A n cp, .slice A1 no co, .int .i8 z] w fun e w' => e = .returned (.bool true) ∧ Below w.heap.size w w' := by
  have HPS := Lib.hid hps
  have HXS := Lib.hid hxs
  have hzb := bounds_i8 hwf
  have hwz : IntKind.i64.wrap z = z := IntWalk.i64_in _ (by omega)
  clear hps hxs hwf hzb
  go_enter Try.func4, Try.ntmps4
  go_wp2_with fail
  refine (awake_walk w).mono ?_
  rintro e w1 ⟨rfl, b1⟩
  have HB := Lib.hid b1
  clear b1
  by_cases c1 : n < 1
  · have i1 : (n : Int) < 1 := by omega
    go_wp2
    go_ret
    exact ⟨rfl, HB.out⟩
  by_cases c2 : 4 < n
  · have i1 : ¬ (n : Int) < 1 := by omega
    have i2 : (4 : Int) < (n : Int) := by omega
    have i3 : decide ((n : Int) < 1) = false := by simpa using i1
    go_wp2
    go_ret
    exact ⟨rfl, HB.out⟩
  by_cases c3 : 80 < no
  · have i1 : ¬ (n : Int) < 1 := by omega
    have i2 : ¬ (4 : Int) < (n : Int) := by omega
    have i4 : (80 : Int) < (no : Int) := by omega
    have i3 : decide ((n : Int) < 1) = false := by simpa using i1
    have i5 : decide ((4 : Int) < (n : Int)) = false := by simpa using i2
    go_wp2
    go_ret
    exact ⟨rfl, HB.out⟩
  have i1 : ¬ (n : Int) < 1 := by omega
  have i2 : ¬ (4 : Int) < (n : Int) := by omega
  have i4 : ¬ (80 : Int) < (no : Int) := by omega
  have i3 : decide ((n : Int) < 1) = false := by simpa using i1
  have i5 : decide ((4 : Int) < (n : Int)) = false := by simpa using i2
  obtain ⟨O0, hM0⟩ := MS.new (w0 := w) w1 z HB.out (fun _ => ⟨none, 0, 0, []⟩) (fun _ => 0) (fun _ => 0)
  have HM0 := Lib.hid hM0
  clear hM0 HB
  go_wp2
  generalize hW : (w1.alloc (.cells #[.int .i64 z, .slice none 0 0] ceT)).alloc (.cells #[.int .i64 z, .slice none 0 0] ceT) = W at *
  clear hW
  generalize w1.heap.size + 1 = cb at *
  generalize w1.heap.size = ca at *
  clear i1 i2 i3 i4 i5
  go_loopw [9, 10, 41] (fun u v i wr => ∃ (k : Nat) (P : Nat → Ps) (ths rs O : Nat → Nat), k ≤ n ∧ i = .int .i64 k ∧ MS w ca cb k P ths rs (fun _ => []) (fun _ => false) z [] (fun _ => []) z [] u v O wr) (fun _ _ i _ => n - (intOf i).toNat)
  case atStart => exact ⟨0, _, _, _, O0, by omega, rfl, HM0.out⟩
  case round =>
    clear HM0 O0
    obtain ⟨k, P, ths, rs, O, hk, rfl, hM⟩ := hrel
    obtain ⟨Al, cl, rfl⟩ := own_shape hM.lr
    obtain ⟨Aw, cw, rfl⟩ := own_shape hM.rr
    by_cases hlt : k < n
    · have i2 : (k : Int) < (n : Int) := by omega
      have i3 : (0 : Int) ≤ (k : Int) := by omega
      obtain ⟨b, off, p, rfl, hcp, hpg⟩ := HPS.out.at_ hM.bel hlt
      obtain ⟨pA, pn, pc, pr⟩ := p
      simp only at hcp hpg
      by_cases d1 : pn < 1
      · have i4 : (pn : Int) < 1 := by omega
        have HBB := Lib.hid hM.bel
        clear hM
        go_wp2
        go_ret
        exact ⟨rfl, HBB.out⟩
      by_cases d2 : 20 < pn
      · have i4 : ¬ (pn : Int) < 1 := by omega
        have i5 : decide ((pn : Int) < 1) = false := by simpa using i4
        have i6 : (20 : Int) < (pn : Int) := by omega
        have HBB := Lib.hid hM.bel
        clear hM
        go_wp2
        go_ret
        exact ⟨rfl, HBB.out⟩
      have i4 : ¬ (pn : Int) < 1 := by omega
      have i5 : decide ((pn : Int) < 1) = false := by simpa using i4
      have i6 : ¬ (20 : Int) < (pn : Int) := by omega
      have hmk := make_walk pA pn pc ca w.heap.size wr hM.bel.size
      have HM := Lib.hid hM
      have HPG := Lib.hid hpg
      clear hM hpg
      go_wp2_with fail
      refine hmk.mono ?_
      clear hmk hcp i4 i5 i6
      rintro e w2 ⟨a, rfl, hmt, b2⟩
      obtain ⟨W3, s3, hW3, hs3, b3, e3⟩ : ∃ (W3 : World) (s : Nat), w2.alloc (.cells #[ptr a] 29) = W3 ∧ w2.heap.size = s ∧ Below w2.heap.size w2 W3 ∧ W3.cell? ⟨s, 0, none⟩ = some (ptr a) := ⟨_, _, rfl, rfl, below_new _ _, c_new rfl rfl⟩
      obtain ⟨A4, c4, W4, hrun4, r4, g4, l4⟩ := run_pushP rowTh ((HM.out.below (b2.trans (b3.mono b2.size))).lr) e3 (by omega)
      obtain ⟨W5, r, hW5, hr5, b5, h5⟩ : ∃ (W5 : World) (r : Nat), W4.alloc (.cells #[.slice pA pn pc, .int .i64 0, .slice none 0 0] rnT) = W5 ∧ W4.heap.size = r ∧ Below W4.heap.size W4 W5 ∧ Rn (fun b => b = r) W5 r pA pn pc 0 [] (.slice none 0 0) := ⟨_, _, rfl, rfl, below_new _ _, rn_new W4 pA pn pc⟩
      obtain ⟨W6, s6, hW6, hs6, b6, e6⟩ : ∃ (W6 : World) (s : Nat), W5.alloc (.cells #[ptr r] 31) = W6 ∧ W5.heap.size = s ∧ Below W5.heap.size W5 W6 ∧ W6.cell? ⟨s, 0, none⟩ = some (ptr r) := ⟨_, _, rfl, rfl, below_new _ _, c_new rfl rfl⟩
      have hrr6 : W6.ownsRow w.heap.size 31 1 (.slice Aw k cw) k ((List.range k).map (fun i => ptr (rs i))) := by
        refine own_at HM.out.rr fun b e => ?_
        have hb := (World.ownsRow.lt HM.out.rr b e).2
        have h1 := b2.size
        have h2 := b3.size
        have h3 := g4.size
        have h4 := b5.size
        rw [b6.block b (by omega), b5.block b (by omega), g4.block b (by omega) (fun g => by have h5 := HM.out.lo b g.symm; have h6 := HM.out.wo b e; omega), b3.block b (by omega), b2.block b hb]
      obtain ⟨A7, c7, W7, hrun7, r7, g7, l7⟩ := run_pushP rowRn hrr6 e6 (by omega)
      obtain ⟨O', hM7⟩ := HM.out.grow (p := ⟨pA, pn, pc, pr⟩) HPG.out (by simp only; omega) hmt b2 b3 r4 g4 l4 hr5 h5 b5 b6 r7 g7 l7
      have HM7 := Lib.hid hM7
      clear hM7 r4 g4 l4 r7 g7 l7 hrr6 h5 hmt b2 b3 b5 b6 e3 e6 HM HPG
      go_wp2_with (at_builtin; first | refine Lib.wpList_append_run _ rfl _ _ _ _ rfl _ _ rfl rfl _ _ hrun4 ?_ | refine Lib.wpList_append_run _ rfl _ _ _ _ rfl _ _ rfl rfl _ _ hrun7 ?_)
      go_roundw
      case rel => exact ⟨k + 1, _, _, _, O', by omega, by go_num, HM7.out⟩
      case measure => simp [intOf]; omega
    · have hke : k = n := by omega
      subst hke
      have i2 : ¬ (k : Int) < (k : Int) := by omega
      have HM := Lib.hid hM
      clear hM
      go_wp2
      have hk1 : 1 ≤ k := by omega
      have hk4 : k ≤ 4 := by omega
      clear c1 c2 hlt hk HPS
      go_loopw [68] (fun i wr => ∃ (q : Nat) (zs : Nat → List Int) (fin : Nat → Bool) (N : Int) (l : List Int) (O : Nat → Nat), q ≤ no ∧ i = .int .i64 q ∧ l.length ≤ 3 * q ∧ MS w ca cb k P ths rs zs fin N l zs N l (.slice Al k cl) (.slice Aw k cw) O wr) (fun i _ => no - (intOf i).toNat)
      case atStart => exact ⟨0, _, _, _, [], O, by omega, rfl, by simp, HM.out⟩
      case round =>
        clear HM O
        obtain ⟨q, zs, fin, N, l, O, hq, rfl, hll, hM⟩ := hrel
        by_cases hlt : q < no
        · have i2 : (q : Int) < (no : Int) := by omega
          have i3 : (0 : Int) ≤ (q : Int) := by omega
          obtain ⟨b, off, x, rfl, hcx, hx⟩ := HXS.out.at_ hM.bel hlt
          obtain ⟨ix, hix, hxk⟩ : ∃ ix : Nat, x % k = ix ∧ ix < k := ⟨_, rfl, Nat.mod_lt _ (by omega)⟩
          have hwx : IntKind.i64.wrap (x : Int) = (x : Int) := IntWalk.i64_in _ (by omega)
          have hk0 : ¬ (k : Int) = 0 := by omega
          have hdm : (x : Int).tmod (k : Int) = (ix : Int) := by rw [← hix, Int.tmod_eq_emod_of_nonneg (by omega)]; rfl
          have hdw : IntKind.i64.wrap (ix : Int) = (ix : Int) := IntWalk.i64_in _ (by omega)
          have HIX := Lib.hid hix
          have HM := Lib.hid hM
          clear hM hix
          obtain ⟨gl, cl', e1, ol, hcl⟩ := HM.out.atL hxk
          injection e1 with e1 _ e3
          subst e1 e3
          obtain ⟨gw, cw', e1, ow, hcw⟩ := HM.out.atR hxk
          injection e1 with e1 _ e3
          subst e1 e3
          have HL := Lib.hid (And.intro hcl hcw)
          have HO := Lib.hid (And.intro ol ow)
          have i4 : (ix : Int) < (k : Int) := by omega
          have i5 : (0 : Int) ≤ (ix : Int) := by omega
          clear hcl hcw ol ow
          go_wp2_with fail
          clear hdm hdw hwx
          refine region_T (fun _ => false) (fun w' => w'.cell? ⟨gl, ix, none⟩ = some (ptr (ths ix)) ∧ w'.cell? ⟨gw, ix, none⟩ = some (ptr (rs ix))) (by kernel_rfl) ?_
          obtain ⟨X0, hX0, b0⟩ : ∃ X0 : World, wr.drew = X0 ∧ Below wr.heap.size wr X0 := ⟨_, rfl, (Below.refl _ wr).drew⟩
          rw [hX0]
          clear hX0 hcx
          have hC : X0.cell? ⟨gl, ix, none⟩ = some (ptr (ths ix)) ∧ X0.cell? ⟨gw, ix, none⟩ = some (ptr (rs ix)) := ⟨below_read b0 HL.out.1, below_read b0 HL.out.2⟩
          have HM0 := Lib.hid (HM.out.below b0)
          clear b0 HM HL
          refine takeD 0 77 (v := ?_) rfl rfl (by kernel_rfl) (by kernel_rfl) (by kernel_rfl) (by kernel_rfl) (fun _ _ _ _ h => h) hC (by rfl) ?_ ?_
          rotate_left
          · intro w hSw; (try dsimp only at hSw); go_simp; try (with_reducible rfl)
          simp only [List.setIfInBounds_toArray, List.set_cons_zero, List.set_cons_succ]
          refine takeD 1 78 (v := ?_) rfl rfl (by kernel_rfl) (by kernel_rfl) (by kernel_rfl) (by kernel_rfl) (fun _ _ _ _ h => h) hC (by rfl) ?_ ?_
          rotate_left
          · intro w hSw; (try dsimp only at hSw); go_simp; try (with_reducible rfl)
          simp only [List.setIfInBounds_toArray, List.set_cons_zero, List.set_cons_succ]
          refine takeD 2 79 (v := ?_) rfl rfl (by kernel_rfl) (by kernel_rfl) (by kernel_rfl) (by kernel_rfl) (fun _ _ _ _ h => h) hC (by rfl) ?_ ?_
          rotate_left
          · intro w hSw; (try dsimp only at hSw); go_simp; try (with_reducible rfl)
          simp only [List.setIfInBounds_toArray, List.set_cons_zero, List.set_cons_succ]
          refine takeD 3 80 (v := ?_) rfl rfl (by kernel_rfl) (by kernel_rfl) (by kernel_rfl) (by kernel_rfl) (fun _ _ _ _ h => h) hC (by rfl) ?_ ?_
          rotate_left
          · intro w hSw; (try dsimp only at hSw); go_simp; try (with_reducible rfl)
          simp only [List.setIfInBounds_toArray, List.set_cons_zero, List.set_cons_succ]
          refine takeD 5 82 (v := ?_) rfl rfl (by kernel_rfl) (by kernel_rfl) (by kernel_rfl) (by kernel_rfl) (fun _ _ _ _ h => h) hC (by rfl) ?_ ?_
          rotate_left
          · intro w hSw; (try dsimp only at hSw); go_simp; try (with_reducible rfl)
          simp only [List.setIfInBounds_toArray, List.set_cons_zero, List.set_cons_succ]
          refine takeD 6 83 (v := ?_) rfl rfl (by kernel_rfl) (by kernel_rfl) (by kernel_rfl) (by kernel_rfl) (fun _ _ _ _ h => h) hC (by rfl) ?_ ?_
          rotate_left
          · intro w hSw; (try dsimp only at hSw); go_simp; try (with_reducible rfl)
          simp only [List.setIfInBounds_toArray, List.set_cons_zero, List.set_cons_succ]
          refine takeD 7 84 (v := ?_) rfl rfl (by kernel_rfl) (by kernel_rfl) (by kernel_rfl) (by kernel_rfl) (fun _ _ _ _ h => h) hC (by rfl) ?_ ?_
          rotate_left
          · intro w hSw; (try dsimp only at hSw); go_simp; try (with_reducible rfl)
          simp only [List.setIfInBounds_toArray, List.set_cons_zero, List.set_cons_succ]
          refine takeD 8 85 (v := ?_) rfl rfl (by kernel_rfl) (by kernel_rfl) (by kernel_rfl) (by kernel_rfl) (fun _ _ _ _ h => h) hC (by rfl) ?_ ?_
          rotate_left
          · intro w hSw; (try dsimp only at hSw); go_simp; try (with_reducible rfl)
          simp only [List.setIfInBounds_toArray, List.set_cons_zero, List.set_cons_succ]
          refine takeD 9 86 (v := ?_) rfl rfl (by kernel_rfl) (by kernel_rfl) (by kernel_rfl) (by kernel_rfl) (fun _ _ _ _ h => h) hC (by rfl) ?_ ?_
          rotate_left
          · intro w hSw; (try dsimp only at hSw); go_simp; try (with_reducible rfl)
          simp only [List.setIfInBounds_toArray, List.set_cons_zero, List.set_cons_succ]
          refine oneT (i := 4) (by kernel_rfl) rfl (by rfl) (fun K hK => ?_)
          go_simp
          refine (HM0.out.step hxk (by omega)).mono ?_
          rintro e X1 ⟨rfl, O1, h1, o1⟩
          have hC1 : X1.cell? ⟨gl, ix, none⟩ = some (ptr (ths ix)) ∧ X1.cell? ⟨gw, ix, none⟩ = some (ptr (rs ix)) := ⟨only_read o1 (fun e => by have h2 : O gl = 3 := HO.out.1; simp only at e; omega) hC.1, only_read o1 (fun e => by have h2 : O gw = 4 := HO.out.2; simp only at e; omega) hC.2⟩
          have HO1 : Hid (O1 gl = 3 ∧ O1 gw = 4) := ⟨h1.lo gl rfl, h1.wo gw rfl⟩
          refine hK.out _ _ (fun _ => hC1) ?_
          clear hK K hC HO o1 HM0
          have hC := hC1
          clear hC1
          have HM1 := Lib.hid h1
          clear h1
          obtain ⟨fv, hfv⟩ : ∃ fv, decide ((P ix).n ≤ pos (nxt (P ix).pr (zs ix) N l).1) = fv := ⟨_, rfl⟩
          rw [hfv] at HM1 ⊢
          have HFV := Lib.hid hfv
          clear hfv
          try simp only [Act.put, List.setIfInBounds_toArray, List.set_cons_zero, List.set_cons_succ]
          refine oneT (i := 10) (by kernel_rfl) rfl (by rfl) (fun K hK => ?_)
          go_simp
          refine (HM1.out.next hxk (by omega)).mono ?_
          rintro e X2 ⟨rfl, O2, h2, o2⟩
          rw [HFV.out]
          have hC1 : X2.cell? ⟨gl, ix, none⟩ = some (ptr (ths ix)) ∧ X2.cell? ⟨gw, ix, none⟩ = some (ptr (rs ix)) := ⟨only_read o2 (fun e => by have h2 : O1 gl = 3 := HO1.out.1; simp only at e; omega) hC.1, only_read o2 (fun e => by have h2 : O1 gw = 4 := HO1.out.2; simp only at e; omega) hC.2⟩
          refine hK.out _ _ (fun _ => hC1) ?_
          clear hK K hC HO1 o2 HM1
          have hC := hC1
          clear hC1
          try simp only [Act.put, List.setIfInBounds_toArray, List.set_cons_zero, List.set_cons_succ]
          obtain ⟨z', N', l', hnx⟩ : ∃ z' N' l', nxt (P ix).pr (zs ix) N l = (z', N', l') := ⟨_, _, _, rfl⟩
          have hl' : l'.length ≤ 3 * (q + 1) := by
            have : (nxt (P ix).pr (zs ix) N l).2.2.length ≤ l.length + 3 := by
              unfold nxt
              split
              · simp [Tc.log]
              · simp
            rw [hnx] at this
            simp only at this
            omega
          rw [hnx] at h2
          simp only at h2
          clear hnx HFV
          have hz21 : z'.length ≤ 21 := by
            have h3 := h2.bd ix hxk
            rw [upd_same] at h3
            have h4 := (h2.pg ix hxk).2
            have h5 := pos_len z'
            omega
          obtain ⟨L1, hc1⟩ := h2.ce
          obtain ⟨AL1, nL1, cL1, rfl⟩ := hc1.row.shape
          obtain ⟨L2, hc2⟩ := h2.cd
          obtain ⟨AL2, nL2, cL2, rfl⟩ := hc2.row.shape
          obtain ⟨R2, hr2⟩ := h2.rn ix hxk
          rw [upd_same] at hr2
          obtain ⟨AR, nR, cR, rfl⟩ := hr2.row.shape
          have hmt := h2.mt ix hxk
          rw [upd_same, upd_same] at hmt
          have HMT := Lib.hid hmt
          have HNR : Hid (nR = z'.length) := hr2.row.sl.len
          have HC : Hid (∀ w', Below X2.heap.size X2 w' → (w'.cell? ⟨gl, ix, none⟩ = some (ptr (ths ix)) ∧ w'.cell? ⟨gw, ix, none⟩ = some (ptr (rs ix))) ∧ w'.cell? ⟨ca, 1, none⟩ = some (.slice AL1 nL1 cL1) ∧ w'.cell? ⟨cb, 1, none⟩ = some (.slice AL2 nL2 cL2) ∧ w'.cell? ⟨rs ix, 2, none⟩ = some (.slice AR nR cR)) := fun w' h => ⟨⟨below_read h hC.1, below_read h hC.2⟩, below_read h hc1.cells.2, below_read h hc2.cells.2, below_read h hr2.cells.2.2⟩
          have HM2 := Lib.hid h2
          have HC1 := Lib.hid hc1
          have HC2 := Lib.hid hc2
          have HR2 := Lib.hid hr2
          have HLL := Lib.hid hl'
          have HZ21 := Lib.hid hz21
          have HLL0 := Lib.hid hll
          clear h2 hc1 hc2 hr2 hmt hl' hz21 hll
          refine oneT (i := 11) (by kernel_rfl) rfl (by rfl) (fun K hK => ?_)
          go_simp
          refine hK.out _ _ (fun _ => hC) ?_
          clear hK K
          try simp only [Act.put, List.setIfInBounds_toArray, List.set_cons_zero, List.set_cons_succ]
          refine oneT (i := 12) (by kernel_rfl) rfl (by rfl) (fun K hK => ?_)
          go_simp
          refine hK.out _ _ (fun _ => hC) ?_
          clear hK K
          try simp only [Act.put, List.setIfInBounds_toArray, List.set_cons_zero, List.set_cons_succ]
          refine narrowT (C := fun w' => (w'.cell? ⟨gl, ix, none⟩ = some (ptr (ths ix)) ∧ w'.cell? ⟨gw, ix, none⟩ = some (ptr (rs ix))) ∧ w'.cell? ⟨ca, 1, none⟩ = some (.slice AL1 nL1 cL1) ∧ w'.cell? ⟨cb, 1, none⟩ = some (.slice AL2 nL2 cL2) ∧ w'.cell? ⟨rs ix, 2, none⟩ = some (.slice AR nR cR)) (fun _ h => h.1) _ _ _ _ ?_
          clear hC
          have hC := HC.out X2 (Below.refl _ _)
          refine takeD 13 90 (v := ?_) rfl rfl (by kernel_rfl) (by kernel_rfl) (by kernel_rfl) (by kernel_rfl) (fun _ _ _ _ h => h) hC (by rfl) ?_ ?_
          rotate_left
          · intro w hSw; (try dsimp only at hSw); go_simp; try (with_reducible rfl)
          simp only [List.setIfInBounds_toArray, List.set_cons_zero, List.set_cons_succ]
          refine takeD 14 91 (v := ?_) rfl rfl (by kernel_rfl) (by kernel_rfl) (by kernel_rfl) (by kernel_rfl) (fun _ _ _ _ h => h) hC (by rfl) ?_ ?_
          rotate_left
          · intro w hSw; (try dsimp only at hSw); go_simp; try (with_reducible rfl)
          simp only [List.setIfInBounds_toArray, List.set_cons_zero, List.set_cons_succ]
          refine takeD 15 92 (v := ?_) rfl rfl (by kernel_rfl) (by kernel_rfl) (by kernel_rfl) (by kernel_rfl) (fun _ _ _ _ h => h) hC (by rfl) ?_ ?_
          rotate_left
          · intro w hSw; (try dsimp only at hSw); go_simp; try (with_reducible rfl)
          simp only [List.setIfInBounds_toArray, List.set_cons_zero, List.set_cons_succ]
          refine takeD 16 93 (v := ?_) rfl rfl (by kernel_rfl) (by kernel_rfl) (by kernel_rfl) (by kernel_rfl) (fun _ _ _ _ h => h) hC (by rfl) ?_ ?_
          rotate_left
          · intro w hSw; (try dsimp only at hSw); go_simp; try (with_reducible rfl)
          simp only [List.setIfInBounds_toArray, List.set_cons_zero, List.set_cons_succ]
          refine takeD 17 94 (v := ?_) rfl rfl (by kernel_rfl) (by kernel_rfl) (by kernel_rfl) (by kernel_rfl) (fun _ _ _ _ h => h) hC (by rfl) ?_ ?_
          rotate_left
          · intro w hSw; (try dsimp only at hSw); go_simp; try (with_reducible rfl)
          simp only [List.setIfInBounds_toArray, List.set_cons_zero, List.set_cons_succ]
          refine takeD 18 95 (v := ?_) rfl rfl (by kernel_rfl) (by kernel_rfl) (by kernel_rfl) (by kernel_rfl) (fun _ _ _ _ h => h) hC (by rfl) ?_ ?_
          rotate_left
          · intro w hSw; (try dsimp only at hSw); go_simp; try (with_reducible rfl)
          simp only [List.setIfInBounds_toArray, List.set_cons_zero, List.set_cons_succ]
          refine takeD 19 96 (v := ?_) rfl rfl (by kernel_rfl) (by kernel_rfl) (by kernel_rfl) (by kernel_rfl) (fun _ _ _ _ h => h) hC (by rfl) ?_ ?_
          rotate_left
          · intro w hSw; (try dsimp only at hSw); go_simp; try (with_reducible rfl)
          simp only [List.setIfInBounds_toArray, List.set_cons_zero, List.set_cons_succ]
          refine takeD 20 97 (v := ?_) rfl rfl (by kernel_rfl) (by kernel_rfl) (by kernel_rfl) (by kernel_rfl) (fun _ _ _ _ h => h) hC (by rfl) ?_ ?_
          rotate_left
          · intro w hSw; (try dsimp only at hSw); go_simp; try (with_reducible rfl)
          simp only [List.setIfInBounds_toArray, List.set_cons_zero, List.set_cons_succ]
          refine oneT (i := 21) (by kernel_rfl) rfl (by rfl) (fun K hK => ?_)
          go_simp
          refine (same_walk AL1 AL2 nL1 cL1 nL2 cL2 l' l' X2 HC1.out.row.sl HC2.out.row.sl (by have h1 := HC1.out.row.sl.len; have h2 := HLL.out; omega)).mono ?_
          rintro e X3 ⟨rfl, b3⟩
          rw [show decide (l' = l') = true from decide_eq_true rfl]
          refine hK.out _ _ (fun _ => HC.out X3 b3) ?_
          clear hK K hC
          have hC := HC.out X3 b3
          try simp only [Act.put, List.setIfInBounds_toArray, List.set_cons_zero, List.set_cons_succ]
          have HB3 := Lib.hid b3
          clear b3
          refine oneT (i := 22) (by kernel_rfl) rfl (by rfl) (fun K hK => ?_)
          go_simp
          refine hK.out _ _ (fun _ => hC) ?_
          clear hK K
          try simp only [Act.put, List.setIfInBounds_toArray, List.set_cons_zero, List.set_cons_succ]
          refine oneT (i := 23) (by kernel_rfl) rfl (by rfl) (fun K hK => ?_)
          go_simp
          refine hK.out _ _ (fun _ => hC) ?_
          clear hK K
          try simp only [Act.put, List.setIfInBounds_toArray, List.set_cons_zero, List.set_cons_succ]
          refine oneT (i := 24) (by kernel_rfl) rfl (by rfl) (fun K hK => ?_)
          go_simp
          refine hK.out _ _ (fun _ => hC) ?_
          clear hK K
          try simp only [Act.put, List.setIfInBounds_toArray, List.set_cons_zero, List.set_cons_succ]
          refine takeD 25 102 (v := ?_) rfl rfl (by kernel_rfl) (by kernel_rfl) (by kernel_rfl) (by kernel_rfl) (fun _ _ _ _ h => h) hC (by rfl) ?_ ?_
          rotate_left
          · intro w hSw; (try dsimp only at hSw); go_simp; try (with_reducible rfl)
          simp only [List.setIfInBounds_toArray, List.set_cons_zero, List.set_cons_succ]
          refine takeD 26 103 (v := ?_) rfl rfl (by kernel_rfl) (by kernel_rfl) (by kernel_rfl) (by kernel_rfl) (fun _ _ _ _ h => h) hC (by rfl) ?_ ?_
          rotate_left
          · intro w hSw; (try dsimp only at hSw); go_simp; try (with_reducible rfl)
          simp only [List.setIfInBounds_toArray, List.set_cons_zero, List.set_cons_succ]
          refine takeD 27 104 (v := ?_) rfl rfl (by kernel_rfl) (by kernel_rfl) (by kernel_rfl) (by kernel_rfl) (fun _ _ _ _ h => h) hC (by rfl) ?_ ?_
          rotate_left
          · intro w hSw; (try dsimp only at hSw); go_simp; try (with_reducible rfl)
          simp only [List.setIfInBounds_toArray, List.set_cons_zero, List.set_cons_succ]
          refine takeD 28 105 (v := ?_) rfl rfl (by kernel_rfl) (by kernel_rfl) (by kernel_rfl) (by kernel_rfl) (fun _ _ _ _ h => h) hC (by rfl) ?_ ?_
          rotate_left
          · intro w hSw; (try dsimp only at hSw); go_simp; try (with_reducible rfl)
          simp only [List.setIfInBounds_toArray, List.set_cons_zero, List.set_cons_succ]
          refine takeD 30 107 (v := ?_) rfl rfl (by kernel_rfl) (by kernel_rfl) (by kernel_rfl) (by kernel_rfl) (fun _ _ _ _ h => h) hC (by rfl) ?_ ?_
          rotate_left
          · intro w hSw; (try dsimp only at hSw); go_simp; try (with_reducible rfl)
          simp only [List.setIfInBounds_toArray, List.set_cons_zero, List.set_cons_succ]
          refine takeD 31 108 (v := ?_) rfl rfl (by kernel_rfl) (by kernel_rfl) (by kernel_rfl) (by kernel_rfl) (fun _ _ _ _ h => h) hC (by rfl) ?_ ?_
          rotate_left
          · intro w hSw; (try dsimp only at hSw); go_simp; try (with_reducible rfl)
          simp only [List.setIfInBounds_toArray, List.set_cons_zero, List.set_cons_succ]
          refine takeD 32 109 (v := ?_) rfl rfl (by kernel_rfl) (by kernel_rfl) (by kernel_rfl) (by kernel_rfl) (fun _ _ _ _ h => h) hC (by rfl) ?_ ?_
          rotate_left
          · intro w hSw; (try dsimp only at hSw); go_simp; try (with_reducible rfl)
          simp only [List.setIfInBounds_toArray, List.set_cons_zero, List.set_cons_succ]
          refine takeD 33 110 (v := ?_) rfl rfl (by kernel_rfl) (by kernel_rfl) (by kernel_rfl) (by kernel_rfl) (fun _ _ _ _ h => h) hC (by rfl) ?_ ?_
          rotate_left
          · intro w hSw; (try dsimp only at hSw); go_simp; try (with_reducible rfl)
          simp only [List.setIfInBounds_toArray, List.set_cons_zero, List.set_cons_succ]
          refine takeD 34 111 (v := ?_) rfl rfl (by kernel_rfl) (by kernel_rfl) (by kernel_rfl) (by kernel_rfl) (fun _ _ _ _ h => h) hC (by rfl) ?_ ?_
          rotate_left
          · intro w hSw; (try dsimp only at hSw); go_simp; try (with_reducible rfl)
          simp only [List.setIfInBounds_toArray, List.set_cons_zero, List.set_cons_succ]
          refine takeD 35 112 (v := ?_) rfl rfl (by kernel_rfl) (by kernel_rfl) (by kernel_rfl) (by kernel_rfl) (fun _ _ _ _ h => h) hC (by rfl) ?_ ?_
          rotate_left
          · intro w hSw; (try dsimp only at hSw); go_simp; try (with_reducible rfl)
          simp only [List.setIfInBounds_toArray, List.set_cons_zero, List.set_cons_succ]
          refine takeD 36 113 (v := ?_) rfl rfl (by kernel_rfl) (by kernel_rfl) (by kernel_rfl) (by kernel_rfl) (fun _ _ _ _ h => h) hC (by rfl) ?_ ?_
          rotate_left
          · intro w hSw; (try dsimp only at hSw); go_simp; try (with_reducible rfl)
          simp only [List.setIfInBounds_toArray, List.set_cons_zero, List.set_cons_succ]
          refine takeD 37 114 (v := ?_) rfl rfl (by kernel_rfl) (by kernel_rfl) (by kernel_rfl) (by kernel_rfl) (fun _ _ _ _ h => h) hC (by rfl) ?_ ?_
          rotate_left
          · intro w hSw; (try dsimp only at hSw); go_simp; try (with_reducible rfl)
          simp only [List.setIfInBounds_toArray, List.set_cons_zero, List.set_cons_succ]
          refine oneT (i := 29) (by kernel_rfl) rfl (by rfl) (fun K hK => ?_)
          go_simp
          refine ((HMT.out.only (G := fun _ => False) (Only.of_below _ HB3.out) (fun _ _ e => e)).steps).mono ?_
          rintro e y ⟨rfl, rfl⟩
          rw [← HNR.out]
          refine hK.out _ _ (fun _ => hC) ?_
          clear hK K
          try simp only [Act.put, List.setIfInBounds_toArray, List.set_cons_zero, List.set_cons_succ]
          refine oneT (i := 38) (by kernel_rfl) rfl (by rfl) (fun K hK => ?_)
          go_simp
          refine hK.out _ _ (fun _ => hC) ?_
          clear hK K
          try simp only [Act.put, List.setIfInBounds_toArray, List.set_cons_zero, List.set_cons_succ]
          refine oneT (i := 39) (by kernel_rfl) rfl (by rfl) (fun K hK => ?_)
          go_simp
          refine hK.out _ _ (fun _ => hC) ?_
          clear hK K
          try simp only [Act.put, List.setIfInBounds_toArray, List.set_cons_zero, List.set_cons_succ]
          refine doneT (by kernel_rfl) ?_
          clear hC
          go_wp2_with fail
          refine region_T (fun _ => false) (fun w' => (w'.cell? ⟨gl, ix, none⟩ = some (ptr (ths ix)) ∧ w'.cell? ⟨gw, ix, none⟩ = some (ptr (rs ix))) ∧ w'.cell? ⟨ca, 1, none⟩ = some (.slice AL1 nL1 cL1) ∧ w'.cell? ⟨cb, 1, none⟩ = some (.slice AL2 nL2 cL2) ∧ w'.cell? ⟨rs ix, 2, none⟩ = some (.slice AR nR cR)) (by kernel_rfl) ?_
          obtain ⟨X4, hX4, b4⟩ : ∃ X4 : World, X3.drew = X4 ∧ Below X2.heap.size X2 X4 := ⟨_, rfl, HB3.out.drew⟩
          rw [hX4]
          clear hX4
          have hC := HC.out X4 b4
          have HMT4 := Lib.hid (HMT.out.only (G := fun _ => False) (Only.of_below _ b4) (fun _ _ e => e))
          have HB4 := Lib.hid b4
          clear b4 HB3 HMT
          refine takeD 0 117 (v := ?_) rfl rfl (by kernel_rfl) (by kernel_rfl) (by kernel_rfl) (by kernel_rfl) (fun _ _ _ _ h => h) hC (by rfl) ?_ ?_
          rotate_left
          · intro w hSw; (try dsimp only at hSw); go_simp; try (with_reducible rfl)
          simp only [List.setIfInBounds_toArray, List.set_cons_zero, List.set_cons_succ]
          refine takeD 1 118 (v := ?_) rfl rfl (by kernel_rfl) (by kernel_rfl) (by kernel_rfl) (by kernel_rfl) (fun _ _ _ _ h => h) hC (by rfl) ?_ ?_
          rotate_left
          · intro w hSw; (try dsimp only at hSw); go_simp; try (with_reducible rfl)
          simp only [List.setIfInBounds_toArray, List.set_cons_zero, List.set_cons_succ]
          refine takeD 2 119 (v := ?_) rfl rfl (by kernel_rfl) (by kernel_rfl) (by kernel_rfl) (by kernel_rfl) (fun _ _ _ _ h => h) hC (by rfl) ?_ ?_
          rotate_left
          · intro w hSw; (try dsimp only at hSw); go_simp; try (with_reducible rfl)
          simp only [List.setIfInBounds_toArray, List.set_cons_zero, List.set_cons_succ]
          refine takeD 3 120 (v := ?_) rfl rfl (by kernel_rfl) (by kernel_rfl) (by kernel_rfl) (by kernel_rfl) (fun _ _ _ _ h => h) hC (by rfl) ?_ ?_
          rotate_left
          · intro w hSw; (try dsimp only at hSw); go_simp; try (with_reducible rfl)
          simp only [List.setIfInBounds_toArray, List.set_cons_zero, List.set_cons_succ]
          refine oneT (i := 4) (by kernel_rfl) rfl (by rfl) (fun K hK => ?_)
          go_simp
          refine HMT4.out.done.mono ?_
          rintro e y ⟨rfl, rfl⟩
          refine hK.out _ _ (fun _ => hC) ?_
          clear hK K
          try simp only [Act.put, List.setIfInBounds_toArray, List.set_cons_zero, List.set_cons_succ]
          cases fv with
          | true =>
            refine oneT (i := 5) (by kernel_rfl) rfl (by rfl) (fun K hK => ?_)
            go_simp
            refine hK.out _ _ (fun _ => hC) ?_
            clear hK K
            try simp only [Act.put, List.setIfInBounds_toArray, List.set_cons_zero, List.set_cons_succ]
            refine takeD 6 123 (v := ?_) rfl rfl (by kernel_rfl) (by kernel_rfl) (by kernel_rfl) (by kernel_rfl) (fun _ _ _ _ h => h) hC (by rfl) ?_ ?_
            rotate_left
            · intro w hSw; (try dsimp only at hSw); go_simp; try (with_reducible rfl)
            simp only [List.setIfInBounds_toArray, List.set_cons_zero, List.set_cons_succ]
            refine takeD 7 124 (v := ?_) rfl rfl (by kernel_rfl) (by kernel_rfl) (by kernel_rfl) (by kernel_rfl) (fun _ _ _ _ h => h) hC (by rfl) ?_ ?_
            rotate_left
            · intro w hSw; (try dsimp only at hSw); go_simp; try (with_reducible rfl)
            simp only [List.setIfInBounds_toArray, List.set_cons_zero, List.set_cons_succ]
            refine takeD 8 125 (v := ?_) rfl rfl (by kernel_rfl) (by kernel_rfl) (by kernel_rfl) (by kernel_rfl) (fun _ _ _ _ h => h) hC (by rfl) ?_ ?_
            rotate_left
            · intro w hSw; (try dsimp only at hSw); go_simp; try (with_reducible rfl)
            simp only [List.setIfInBounds_toArray, List.set_cons_zero, List.set_cons_succ]
            refine takeD 9 126 (v := ?_) rfl rfl (by kernel_rfl) (by kernel_rfl) (by kernel_rfl) (by kernel_rfl) (fun _ _ _ _ h => h) hC (by rfl) ?_ ?_
            rotate_left
            · intro w hSw; (try dsimp only at hSw); go_simp; try (with_reducible rfl)
            simp only [List.setIfInBounds_toArray, List.set_cons_zero, List.set_cons_succ]
            refine takeD 11 128 (v := ?_) rfl rfl (by kernel_rfl) (by kernel_rfl) (by kernel_rfl) (by kernel_rfl) (fun _ _ _ _ h => h) hC (by rfl) ?_ ?_
            rotate_left
            · intro w hSw; (try dsimp only at hSw); go_simp; try (with_reducible rfl)
            simp only [List.setIfInBounds_toArray, List.set_cons_zero, List.set_cons_succ]
            refine takeD 12 129 (v := ?_) rfl rfl (by kernel_rfl) (by kernel_rfl) (by kernel_rfl) (by kernel_rfl) (fun _ _ _ _ h => h) hC (by rfl) ?_ ?_
            rotate_left
            · intro w hSw; (try dsimp only at hSw); go_simp; try (with_reducible rfl)
            simp only [List.setIfInBounds_toArray, List.set_cons_zero, List.set_cons_succ]
            refine takeD 13 130 (v := ?_) rfl rfl (by kernel_rfl) (by kernel_rfl) (by kernel_rfl) (by kernel_rfl) (fun _ _ _ _ h => h) hC (by rfl) ?_ ?_
            rotate_left
            · intro w hSw; (try dsimp only at hSw); go_simp; try (with_reducible rfl)
            simp only [List.setIfInBounds_toArray, List.set_cons_zero, List.set_cons_succ]
            refine takeD 14 131 (v := ?_) rfl rfl (by kernel_rfl) (by kernel_rfl) (by kernel_rfl) (by kernel_rfl) (fun _ _ _ _ h => h) hC (by rfl) ?_ ?_
            rotate_left
            · intro w hSw; (try dsimp only at hSw); go_simp; try (with_reducible rfl)
            simp only [List.setIfInBounds_toArray, List.set_cons_zero, List.set_cons_succ]
            refine takeD 15 132 (v := ?_) rfl rfl (by kernel_rfl) (by kernel_rfl) (by kernel_rfl) (by kernel_rfl) (fun _ _ _ _ h => h) hC (by rfl) ?_ ?_
            rotate_left
            · intro w hSw; (try dsimp only at hSw); go_simp; try (with_reducible rfl)
            simp only [List.setIfInBounds_toArray, List.set_cons_zero, List.set_cons_succ]
            refine takeD 16 133 (v := ?_) rfl rfl (by kernel_rfl) (by kernel_rfl) (by kernel_rfl) (by kernel_rfl) (fun _ _ _ _ h => h) hC (by rfl) ?_ ?_
            rotate_left
            · intro w hSw; (try dsimp only at hSw); go_simp; try (with_reducible rfl)
            simp only [List.setIfInBounds_toArray, List.set_cons_zero, List.set_cons_succ]
            refine takeD 17 134 (v := ?_) rfl rfl (by kernel_rfl) (by kernel_rfl) (by kernel_rfl) (by kernel_rfl) (fun _ _ _ _ h => h) hC (by rfl) ?_ ?_
            rotate_left
            · intro w hSw; (try dsimp only at hSw); go_simp; try (with_reducible rfl)
            simp only [List.setIfInBounds_toArray, List.set_cons_zero, List.set_cons_succ]
            refine oneT (i := 10) (by kernel_rfl) rfl (by rfl) (fun K hK => ?_)
            go_simp
            refine (HMT4.out.out (by have := HZ21.out; omega)).mono ?_
            rintro e X5 ⟨v, rfl, hr5, b5⟩
            have hr5' : Row 2 X4.heap.size X5 v z' := hr5
            obtain ⟨Q5, n5, d5, rfl⟩ := hr5'.shape
            have b45 : Below X2.heap.size X2 X5 := HB4.out.trans (b5.mono HB4.out.size)
            refine hK.out _ _ (fun _ => HC.out X5 b45) ?_
            clear hK K hC hr5
            have hC := HC.out X5 b45
            try simp only [Act.put, List.setIfInBounds_toArray, List.set_cons_zero, List.set_cons_succ]
            have HS5 := Lib.hid hr5'.sl
            have HS6 := Lib.hid (HR2.out.below b45).row.sl
            have HX5 := Lib.hid b45
            clear hr5' b5 b45
            refine oneT (i := 18) (by kernel_rfl) rfl (by rfl) (fun K hK => ?_)
            go_simp
            refine (same_walk Q5 AR n5 d5 nR cR z' z' X5 HS5.out HS6.out (by have h1 := HS5.out.len; have h2 := HZ21.out; omega)).mono ?_
            rintro e X6 ⟨rfl, b6⟩
            rw [show decide (z' = z') = true from decide_eq_true rfl]
            have b56 := HX5.out.trans (b6.mono HX5.out.size)
            refine hK.out _ _ (fun _ => HC.out X6 b56) ?_
            clear hK K hC
            have hC := HC.out X6 b56
            have HM6 := Lib.hid (HM2.out.below b56)
            clear b6 b56
            try simp only [Act.put, List.setIfInBounds_toArray, List.set_cons_zero, List.set_cons_succ]
            refine oneT (i := 19) (by kernel_rfl) rfl (by rfl) (fun K hK => ?_)
            go_simp
            refine hK.out _ _ (fun _ => hC) ?_
            clear hK K
            try simp only [Act.put, List.setIfInBounds_toArray, List.set_cons_zero, List.set_cons_succ]
            refine oneT (i := 20) (by kernel_rfl) rfl (by rfl) (fun K hK => ?_)
            go_simp
            refine hK.out _ _ (fun _ => hC) ?_
            clear hK K
            try simp only [Act.put, List.setIfInBounds_toArray, List.set_cons_zero, List.set_cons_succ]
            refine doneT (by kernel_rfl) ?_
            clear hC HC HM2 HC1 HC2 HR2 HMT4 HX5 HS5 HS6 HB4
            go_wp2
            go_roundw
            case rel => exact ⟨q + 1, _, _, N', l', O2, by omega, by go_num, HLL.out, HM6.out⟩
            case measure => simp [intOf]; omega
          | false =>
            refine oneT (i := 5) (by kernel_rfl) rfl (by rfl) (fun K hK => ?_)
            go_simp
            refine hK.out _ _ (fun _ => hC) ?_
            clear hK K
            try simp only [Act.put, List.setIfInBounds_toArray, List.set_cons_zero, List.set_cons_succ]
            refine skipD 6 123 rfl rfl (by kernel_rfl) (by kernel_rfl) (by kernel_rfl) (by kernel_rfl) (fun _ _ _ _ h => h) hC (by rfl) ?_
            simp only [List.setIfInBounds_toArray, List.set_cons_zero, List.set_cons_succ]
            refine skipD 7 124 rfl rfl (by kernel_rfl) (by kernel_rfl) (by kernel_rfl) (by kernel_rfl) (fun _ _ _ _ h => h) hC (by rfl) ?_
            simp only [List.setIfInBounds_toArray, List.set_cons_zero, List.set_cons_succ]
            refine skipD 8 125 rfl rfl (by kernel_rfl) (by kernel_rfl) (by kernel_rfl) (by kernel_rfl) (fun _ _ _ _ h => h) hC (by rfl) ?_
            simp only [List.setIfInBounds_toArray, List.set_cons_zero, List.set_cons_succ]
            refine skipD 9 126 rfl rfl (by kernel_rfl) (by kernel_rfl) (by kernel_rfl) (by kernel_rfl) (fun _ _ _ _ h => h) hC (by rfl) ?_
            simp only [List.setIfInBounds_toArray, List.set_cons_zero, List.set_cons_succ]
            refine skipD 10 127 rfl rfl (by kernel_rfl) (by kernel_rfl) (by kernel_rfl) (by kernel_rfl) (fun _ _ _ _ h => h) hC (by rfl) ?_
            simp only [List.setIfInBounds_toArray, List.set_cons_zero, List.set_cons_succ]
            refine skipD 11 128 rfl rfl (by kernel_rfl) (by kernel_rfl) (by kernel_rfl) (by kernel_rfl) (fun _ _ _ _ h => h) hC (by rfl) ?_
            simp only [List.setIfInBounds_toArray, List.set_cons_zero, List.set_cons_succ]
            refine skipD 12 129 rfl rfl (by kernel_rfl) (by kernel_rfl) (by kernel_rfl) (by kernel_rfl) (fun _ _ _ _ h => h) hC (by rfl) ?_
            simp only [List.setIfInBounds_toArray, List.set_cons_zero, List.set_cons_succ]
            refine skipD 13 130 rfl rfl (by kernel_rfl) (by kernel_rfl) (by kernel_rfl) (by kernel_rfl) (fun _ _ _ _ h => h) hC (by rfl) ?_
            simp only [List.setIfInBounds_toArray, List.set_cons_zero, List.set_cons_succ]
            refine skipD 14 131 rfl rfl (by kernel_rfl) (by kernel_rfl) (by kernel_rfl) (by kernel_rfl) (fun _ _ _ _ h => h) hC (by rfl) ?_
            simp only [List.setIfInBounds_toArray, List.set_cons_zero, List.set_cons_succ]
            refine skipD 15 132 rfl rfl (by kernel_rfl) (by kernel_rfl) (by kernel_rfl) (by kernel_rfl) (fun _ _ _ _ h => h) hC (by rfl) ?_
            simp only [List.setIfInBounds_toArray, List.set_cons_zero, List.set_cons_succ]
            refine skipD 16 133 rfl rfl (by kernel_rfl) (by kernel_rfl) (by kernel_rfl) (by kernel_rfl) (fun _ _ _ _ h => h) hC (by rfl) ?_
            simp only [List.setIfInBounds_toArray, List.set_cons_zero, List.set_cons_succ]
            refine skipD 17 134 rfl rfl (by kernel_rfl) (by kernel_rfl) (by kernel_rfl) (by kernel_rfl) (fun _ _ _ _ h => h) hC (by rfl) ?_
            simp only [List.setIfInBounds_toArray, List.set_cons_zero, List.set_cons_succ]
            refine skipD 18 135 rfl rfl (by kernel_rfl) (by kernel_rfl) (by kernel_rfl) (by kernel_rfl) (fun _ _ _ _ h => h) hC (by rfl) ?_
            simp only [List.setIfInBounds_toArray, List.set_cons_zero, List.set_cons_succ]
            refine skipD 19 136 rfl rfl (by kernel_rfl) (by kernel_rfl) (by kernel_rfl) (by kernel_rfl) (fun _ _ _ _ h => h) hC (by rfl) ?_
            simp only [List.setIfInBounds_toArray, List.set_cons_zero, List.set_cons_succ]
            refine oneT (i := 20) (by kernel_rfl) rfl (by rfl) (fun K hK => ?_)
            go_simp
            refine hK.out _ _ (fun _ => hC) ?_
            clear hK K
            try simp only [Act.put, List.setIfInBounds_toArray, List.set_cons_zero, List.set_cons_succ]
            refine doneT (by kernel_rfl) ?_
            have HM6 := Lib.hid (HM2.out.below HB4.out)
            clear hC HC HM2 HC1 HC2 HR2 HMT4 HB4
            go_wp2
            go_roundw
            case rel => exact ⟨q + 1, _, _, N', l', O2, by omega, by go_num, HLL.out, HM6.out⟩
            case measure => simp [intOf]; omega
        · have i2 : ¬ (q : Int) < (no : Int) := by omega
          obtain ⟨L1, hc1⟩ := hM.ce
          obtain ⟨L2, hc2⟩ := hM.cd
          have p1 := hc1.cells.1
          have p2 := hc2.cells.1
          have HBB := Lib.hid hM.bel
          clear hM hc1 hc2
          go_wp2_with fail
          go_quiet (fail)
          go_wp2
          go_ret
          exact ⟨by first | rfl | simp, below_drewN HBB.out _⟩
end Go.Proofs.Ytbjaojcffhkahaa
