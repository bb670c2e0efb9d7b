/-
  The law ArenaReuses.
-/
import Derived.Test.YtbalhjfkkigchaaLawH
import Derived.Deep.RegionLaw
namespace Go.Proofs.Ytbalhjfkkigchaa
open Go.ChangeShapes Go.WideShapes Go.ChangeAt Go.RowKit
set_option linter.unusedVariables false
set_option linter.unusedSimpArgs false
set_option maxRecDepth 20000

theorem cut8 (A : Option Addr) (n c k : Nat) (hk : k ≤ n) (hn : n ≤ c) (W : World) : (Instr.slice 34 (.slice A n c) none (some (.int .i64 (k : Int))) none).run Try.prog W = .ok (.slice A k c) W := by
  have hu : Try.prog.underlying 34 = some (.slice (Try.prog.elem 34)) := by kernel_rfl
  have he : (sizeOf (Try.prog.elem 34)).run Try.prog W = .ok 1 W := by kernel_rfl
  rw [run_slice_h (P := Try.prog) (t := 34) _ _ _ _ hu .i64 (k : Int) (by omega) (by omega), he]
  have e : A.map (fun x => x.add 0) = A := by cases A <;> simp [Addr.add]
  simp [Result.andThen, sliced, e]

theorem tt_readL {w wr : World} {F : Nat → Prop} {a g off L T : Nat} {S : As} {lv : List Nat} {gv : Value} {gs : List Int} (h : TT w F a S (.slice (some ⟨g, off, none⟩) L T) (refs 1 lv) gv gs wr) {j : Nat} (hj : j < lv.length) {r : Int} (hr : mk (lv[j] : Int) 1 = r) : wr.cell? ⟨g, off + j, none⟩ = some (.int .i64 r) := by
  have hs := h.live.tol.sl
  obtain ⟨b, o, e, _, hc⟩ := hs.at0 (k := j) (by rw [hs.len, refs_len]; exact hj)
  injection e with e
  injection e with e1 e2
  subst e1 e2
  rw [hc, refs_at 1 hj, hr]

/-- Which places live, and which are gone. -/
structure P2 (n : Nat) (f : Nat → Pa) (lv gn : List Nat) : Prop where
  live : ∀ i ∈ lv, i < n ∧ f i = Pa.one 1 Nd.nil
  gone : ∀ i ∈ gn, i < n ∧ f i = Pa.gone 1
  nl : lv.Nodup
  ng : gn.Nodup
  cnt : ∀ i, i < n → (f i).cnt ≤ 1000000
theorem P2.step {n : Nat} {f : Nat → Pa} {lv gn : List Nat} (h : P2 n f lv gn) {j : Nat} (hj : j < lv.length) : P2 n (upd f lv[j] (Pa.gone 1)) (lv.eraseIdx j) (gn ++ [lv[j]]) := by
  have hm : lv[j] ∈ lv := List.getElem_mem hj
  have hnot : lv[j] ∉ lv.eraseIdx j := by
    intro hmem
    rw [List.mem_eraseIdx_iff_getElem] at hmem
    obtain ⟨k, hk, hne, e⟩ := hmem
    exact hne ((List.getElem_inj h.nl).1 e)
  have hng : lv[j] ∉ gn := fun hg => by
    have h1 := (h.live _ hm).2
    have h2 := (h.gone _ hg).2
    rw [h1] at h2
    simp [Pa.one, Pa.gone] at h2
  refine ⟨fun i hi => ?_, fun i hi => ?_, h.nl.sublist (List.eraseIdx_sublist _ _), ?_, fun i hi => ?_⟩
  · have hil := List.mem_of_mem_eraseIdx hi
    rw [upd_other _ _ (fun e => hnot (by rw [← e]; exact hi))]
    exact h.live i hil
  · simp only [List.mem_append, List.mem_singleton] at hi
    rcases hi with hi | rfl
    · rw [upd_other _ _ (fun e => hng (by rw [← e]; exact hi))]
      exact h.gone i hi
    · exact ⟨(h.live _ hm).1, upd_same _ _ _⟩
  · rw [List.nodup_append]
    refine ⟨h.ng, by simp, fun x hx y hy => ?_⟩
    simp at hy
    subst hy
    exact fun e => hng (e ▸ hx)
  · by_cases e : i = lv[j]
    · subst e; rw [upd_same]; simp [Pa.gone]
    · rw [upd_other _ _ e]; exact h.cnt i hi

set_option maxHeartbeats 8000000 in
theorem arenaReuses_few (t n M : Nat) (A : Option Addr) (q c : Nat) (os : List Int) (m : Nat) (w : World) (ht : t < 256) (hm : m < 256) (ho : Sk .u8 0 255 w A q os) (hqc : q ≤ c) (hn : 1 + t % 20 = n) (hM : 1 + m % 10 = M) (hqn : q ≤ n) :
    Calls Try.prog 4 #[.int .u8 (t : Int), .slice A q c, .int .u8 (m : Int)] w fun e w' => e = .returned (.bool true) ∧ Below w.heap.size w w' := by
  have hn1 : 1 ≤ n ∧ n ≤ 20 := by omega
  have hM1 : 1 ≤ M ∧ M ≤ 10 := by omega
  have HN : Hid (1 + (t : Int) % 20 = (n : Int)) := by show _ = _; omega
  have HM : Hid (1 + (m : Int) % 10 = (M : Int)) := by show _ = _; omega
  have HO := Lib.hid ho
  have hqM := ho.max
  unfold maxLen at hqM
  have hql := Lib.hid ho.len
  have hct := cut8 A q c q (by omega) hqc
  have hmin : ¬ ((n : Int) < (q : Int)) := by omega
  clear hn ho hM
  go_enter Try.func4, Try.ntmps4
  go_wp2_with fail
  refine (awake_walk _).mono ?_
  rintro e w1 ⟨rfl, hb1⟩
  go_wp2_with fail
  refine (new_walk 40 w1).mono ?_
  rintro e w2 ⟨rfl, h2, b2⟩
  rw [show mostOf 40 = 40 from rfl] at h2
  have hti : TI w (fun b => b = w1.heap.size) w1.heap.size (fnS 40 0 (fun _ => Pa.nil) []) (.slice none 0 0) (refs 1 []) w2 :=
    ⟨by simpa [fnS, As.new] using h2, Row.nil _ _ _, (fun c e => by cases e), (fun c e => by have := hb1.size; omega), hb1.trans (b2.mono hb1.size)⟩
  have H2 : Hid (TT w (fun b => b = w1.heap.size) w1.heap.size (fnS 40 0 (fun _ => Pa.nil) []) (.slice none 0 0) (refs 1 []) (.slice none 0 0) (refs 1 []) w2) := ⟨hti, hti, fun c e => by cases e⟩
  clear h2 b2 hb1 hti
  generalize w1.heap.size = a at *
  go_wp2_with fail
  rw [HN.out]
  go_loopw [9, 29] (fun lv i wr => ∃ (k : Nat) (F : Nat → Prop) (f : Nat → Pa), k ≤ n ∧ i = .int .i64 (k : Int) ∧ Hid (TT w F a (fnS 40 k f []) lv (refs 1 (List.range k)) (.slice none 0 0) (refs 1 []) wr) ∧ Hid (∀ i, i < k → f i = Pa.one 1 Nd.nil)) (fun _ i _ => n - (intOf i).toNat)
  case atStart => exact ⟨0, _, _, by omega, rfl, H2, fun i hi => by omega⟩
  case round =>
    clear H2
    obtain ⟨k, F, f, hk, rfl, H, HF⟩ := hrel
    obtain ⟨T1, T2, T3, rfl⟩ := H.out.live.tol.shape
    have HOK : Hid (Ok (fnS 40 k f [])) := fnS_ok (by omega) (fun i hi => by rw [HF.out i hi]; simp [Pa.one]) (by simp)
    by_cases hlt : k < n
    · have i1 : (k : Int) < (n : Int) := by omega
      have hkw : IntKind.i64.wrap ((k : Int) + 1) = (k : Int) + 1 := IntWalk.i64_in _ (by omega)
      go_wp2_with fail
      refine (alloc_yes (lo := wr.heap.size) H.out.live.arn HOK.out (by simp [fnS]; omega) 0 ⟨Pa.nil, by simp [fnS, As.next], rfl⟩ (by omega) (RdN.nil _ _ false false) H.out.live.arn.lt (small_nil _ _)).mono ?_
      rintro e w4 ⟨rfl, h4⟩
      rw [show (fnS 40 k f []).next.1 = k from by simp [fnS, As.next]]
      rw [show (0 + 1 : Nat) = 1 from rfl, fnS_new] at h4
      obtain ⟨F4, h4⟩ := H.out.nx h4
      have H4 := Lib.hid h4
      have hp4 : (refs 1 (List.range k)).length + [mk (k : Int) ((0 + 1 : Nat) : Int)].length ≤ 100000 := by rw [refs_len]; simp; omega
      have hs4 := H4.out.live.below.size
      obtain ⟨rr, hrr⟩ : ∃ rr, mk (k : Int) ((0 + 1 : Nat) : Int) = rr := ⟨_, rfl⟩
      have HRR := Lib.hid hrr
      rw [hrr] at hp4 ⊢
      clear hrr h4
      go_wp2_with (at_builtin; refine pushNB rowR (base := w.heap.size) rfl (.tmp 37) (.tmp 39) rfl _ (refs 1 (List.range k)) rfl (H4.out.next (below_new _ _)).live.tol (some ⟨w4.heap.size, 0, none⟩) 1 1 [rr] rfl (sl_one (by simp)) hp4 (by simp; omega) ?_; intro u5 w5 hr5 hg5 hb5; have H5 := Lib.hid ((H4.out.next (below_new _ _)).pushL hr5 hg5 hb5); clear hr5 hg5 hb5)
      go_roundw
      case rel =>
        refine ⟨k + 1, F4, upd f k (Pa.one 1 Nd.nil), by omega, by go_num, ?_, ?_⟩
        rotate_left
        · intro i hi
          by_cases e : i = k
          · subst e; exact upd_same _ _ _
          · rw [upd_other _ _ e]; exact HF.out i (by omega)
        · rw [List.range_succ, refs_snoc, show mk (k : Int) 1 = rr from HRR.out]; exact H5.out
      case measure => simp [intOf]; omega
    · have i1 : ¬ ((k : Int) < (n : Int)) := by omega
      obtain rfl : k = n := by omega
      have hP0 : Hid (P2 k f (List.range k) []) := ⟨fun i hi => ⟨List.mem_range.1 hi, HF.out i (List.mem_range.1 hi)⟩, fun i hi => by simp at hi, List.nodup_range, List.nodup_nil, fun i hi => by rw [HF.out i hi]; simp [Pa.one]⟩
      clear HF HOK hlt hk
      go_wp2_with fail
      go_loopw [9, 10, 49] (fun lvv gvv i wr => ∃ (j : Nat) (F : Nat → Prop) (f : Nat → Pa) (lv gn : List Nat), j ≤ q ∧ i = .int .i64 (j : Int) ∧ Hid (TT w F a (fnS 40 k f gn) lvv (refs 1 lv) gvv (refs 1 gn) wr) ∧ Hid (P2 k f lv gn) ∧ gn.length = j ∧ lv.length + j = k) (fun _ _ i _ => q - (intOf i).toNat)
      case atStart => exact ⟨0, F, f, List.range k, [], by omega, rfl, H, hP0, rfl, by simp⟩
      case round =>
        clear H hP0 i1
        obtain ⟨j, F, f, lv, gn, hj, rfl, H, hP, hgl, hll⟩ := hrel
        obtain ⟨T1, T2, T3, rfl⟩ := H.out.live.tol.shape
        obtain ⟨G1, G2, G3, rfl⟩ := H.out.gone.tol.shape
        obtain rfl : T2 = lv.length := by obtain ⟨_, _, e, _⟩ := H.out.live.tol.form; injection e with _ e2; rw [e2, refs_len]
        obtain rfl : G2 = gn.length := by obtain ⟨_, _, e, _⟩ := H.out.gone.tol.form; injection e with _ e2; rw [e2, refs_len]
        have HGL := Lib.hid hgl
        have HLL := Lib.hid hll
        clear hgl hll
        have HOK : Hid (Ok (fnS 40 k f gn)) := fnS_ok (by omega) (fun i hi => hP.out.cnt i hi) (by have := HGL.out; omega)
        by_cases hlt : j < q
        · obtain ⟨g, off, z, rfl, hgb, hz, z0, z1, c0⟩ := HO.out.at_ (j := j) (by omega)
          have d0 := (H.out.live.below.cell (p := ⟨g, off + j, none⟩) hgb).trans c0
          have i0 : (0 : Int) ≤ (j : Int) := by omega
          have i1 : (j : Int) < (q : Int) := by omega
          have hjw : IntKind.i64.wrap ((j : Int) + 1) = (j : Int) + 1 := IntWalk.i64_in _ (by omega)
          obtain ⟨z, rfl⟩ := Int.eq_ofNat_of_zero_le z0
          have z255 : z < 256 := by omega
          have hL20 : lv.length ≤ 20 := by have := HLL.out; omega
          have hL0 : 0 < lv.length := by have := HLL.out; omega
          obtain ⟨L, hL⟩ : ∃ L, lv.length = L := ⟨_, rfl⟩
          obtain ⟨ix, hix⟩ : ∃ ix, z % L = ix := ⟨_, rfl⟩
          have hixl : ix < lv.length := by rw [← hix, hL]; exact Nat.mod_lt _ (by omega)
          obtain ⟨gt, offt, rfl, hgtl, hct2⟩ := H.out.live.tol.sl.at0 hixl
          rw [refs_at 1 hixl] at hct2
          obtain ⟨rr, hrr⟩ : ∃ rr, mk (lv[ix] : Int) 1 = rr := ⟨_, rfl⟩
          have HRR := Lib.hid hrr
          rw [hrr] at hct2
          have hLe := Lib.hid hL
          rw [hL] at H hL20 ⊢
          have hLne : (L : Int) ≠ 0 := by omega
          have hixm : (z : Int) % (L : Int) = (ix : Int) := by omega
          have hixm2 : (z : Int).tmod (L : Int) = (ix : Int) := by rw [Int.tmod_eq_emod_of_nonneg (by omega)]; exact hixm
          have x0 : (0 : Int) ≤ (ix : Int) := by omega
          have x1 : (ix : Int) < (L : Int) := by omega
          have hixw : IntKind.i64.wrap ((ix : Int) + 1) = (ix : Int) + 1 := IntWalk.i64_in _ (by omega)
          have HP5 : Hid ((refs 1 gn).length + [rr].length ≤ 100000) := by show _ ≤ _; rw [refs_len]; simp; have := HGL.out; omega
          have hsz := H.out.live.below.size
          clear hrr hL c0 hz z0 z1
          go_wp2_with (at_builtin; refine pushNB rowR (base := w.heap.size) rfl (.tmp 58) (.tmp 63) rfl _ (refs 1 gn) rfl (H.out.next (below_new _ _)).gone.tol (some ⟨wr.heap.size, 0, none⟩) 1 1 [rr] rfl (sl_one (by simp)) HP5.out (by simp; omega) ?_; intro u5 w5 hr5 hg5 hb5; have H5 := Lib.hid ((H.out.next (below_new _ _)).pushG hr5 hg5 hb5); have d5 := tt_readL H5.out hixl HRR.out; clear hr5 hg5 hb5)
          refine (free_yes (i := lv[ix]) (p := Pa.one 1 Nd.nil) H5.out.live.arn HOK.out (by rw [fnS_at (hP.out.live _ (List.getElem_mem hixl)).1, (hP.out.live _ (List.getElem_mem hixl)).2]) rfl HRR.out).mono ?_
          rintro e w6 ⟨rfl, h6⟩
          rw [fnS_free, show (Pa.one 1 Nd.nil).cnt = 1 from rfl] at h6
          obtain ⟨F6, h6⟩ := H5.out.nx h6
          have H6 := Lib.hid h6
          have HP6 := Lib.hid (hP.out.step hixl)
          have hgr : refs 1 gn ++ [rr] = refs 1 (gn ++ [lv[ix]]) := by rw [refs_snoc, HRR.out]
          rw [hgr] at H6
          have HLE : (lv.eraseIdx ix).length + 1 = lv.length := by rw [List.length_eraseIdx, if_pos hixl]; omega
          have HER := Lib.hid HLE
          have HRC := Lib.hid (refs_cut 1 lv ix)
          have hrl := Lib.hid (refs_len 1 lv)
          generalize hlx : lv[ix] = px at *
          generalize hle : lv.eraseIdx ix = lv' at *
          clear h6 H5 H hgr HLE hlx hle d5 hct2 d0
          obtain ⟨C1, hC1, hR1⟩ := cut_upto rowR H6.out.live.tol.sl ix (by omega)
          obtain ⟨C2, hC2, hR2⟩ := cut_from rowR H6.out.live.tol.sl (ix + 1) (by omega)
          have hR2' : ∀ W : World, (Instr.slice 29 (.slice (some ⟨gt, offt, none⟩) L T3) (some (.int .i64 ((ix : Int) + 1))) none none).run Try.prog W = .ok (.slice C2 (L - (ix + 1)) (T3 - (ix + 1))) W := fun W => by have := hR2 W; rw [show (((ix + 1 : Nat)) : Int) = (ix : Int) + 1 from by omega] at this; exact this
          have HC1 := Lib.hid hC1
          have HC2 := Lib.hid hC2
          have z1 : ([] : List Int).length + ((refs 1 lv).take ix).length ≤ 100000 := by rw [List.length_take, hrl.out]; simp; omega
          have z2 : ([] ++ (refs 1 lv).take ix).length + ((refs 1 lv).drop (ix + 1)).length ≤ 100000 := by have := hrl.out; have := HLL.out; simp; omega
          clear hC1 hC2 hR2
          go_wp2_with fail
          go_region_law (first
            | (refine step_pushAll rowR (base := w6.heap.size) rfl (.tmp 72) (.tmp 75) rfl _ [] rfl ?_ C1 ix T3 _ rfl ?_ z1 ?_ ?_
               (· refine Row.of_block ?_ ?_; (· (first | exact h_newd (by simp) | exact h_oldd (h_new (by simp)))); (· go_size))
               (· exact HC1.out.below (by go_grown))
               (· go_size)
               intro u7 w7 hr7 hg7
               have p7 : Below w6.heap.size w6 w7 := Below.trans (by go_grown) ((Below.refl _ _).grown hg7 (by go_size) (fun b e => by first | (injection e with e; subst e; go_size; done) | (injection e with e; subst e; simp; done) | (injection e with e; subst e; simp; omega)))
               have q7 := p7.size
               have HR7 := Lib.hid hr7
               clear hr7 hg7)
            | (refine step_pushAll rowR (base := w6.heap.size) rfl (.tmp 76) (.tmp 80) rfl _ ([] ++ (refs 1 lv).take ix) rfl HR7.out C2 (L - (ix + 1)) (T3 - (ix + 1)) _ rfl (HC2.out.below p7) z2 q7 ?_
               intro u8 w8 hr8 hg8
               have p8 : Below w6.heap.size w6 w8 := p7.grown hg8 q7 (fun b e => (World.ownsRow.lt HR7.out b e).1)
               have HR8 := Lib.hid hr8
               clear hr8 hg8))
          all_goals go_wp2
          all_goals go_roundw
          case rel =>
            refine ⟨j + 1, F6, _, lv', gn ++ [px], by omega, by go_num, ?_, HP6, by simp; exact HGL.out, by have := HER.out; have := HLL.out; omega⟩
            have hr9 := HR8.out
            rw [List.nil_append, HRC.out] at hr9
            exact H6.out.swapL hr9 p8
          case measure => simp [intOf]; omega
        · have i1 : ¬ ((j : Int) < (q : Int)) := by omega
          have H3 : Hid (∀ x (hx : x < gn.length), 0 ≤ x → gn[x] < k ∧ f gn[x] = Pa.gone 1) := fun x hx _ => hP.out.gone _ (List.getElem_mem hx)
          have HC3 := Lib.hid hP.out.cnt
          have HND := Lib.hid hP.out.ng
          have hgk : gn.length ≤ k := by have := HGL.out; omega
          have hge : gn.length = j := HGL.out
          have HGE := Lib.hid hge
          have HOK3 : Hid (TT w F a (fnS 40 (k + (0 - gn.length)) f (gn.drop 0)) (.slice T1 lv.length T3) (refs 1 lv) (.slice G1 gn.length G3) (refs 1 gn) wr) := by rw [Nat.zero_sub, Nat.add_zero, List.drop_zero]; exact H.out
          clear H hP HOK hlt hge
          obtain ⟨g, hg⟩ : ∃ g, gn.length = g := ⟨_, rfl⟩
          have HG := Lib.hid hg
          rw [hg] at HOK3 hgk ⊢
          clear hg
          go_wp2_with fail
          rw [HM.out]
          go_loopw [16, 88] (fun fv i wr => ∃ (x : Nat) (F : Nat → Prop) (f : Nat → Pa), x ≤ M ∧ i = .int .i64 (x : Int) ∧ fv = .int .i64 ((k + (x - g) : Nat) : Int) ∧ Hid (TT w F a (fnS 40 (k + (x - g)) f (gn.drop x)) (.slice T1 lv.length T3) (refs 1 lv) (.slice G1 g G3) (refs 1 gn) wr) ∧ Hid (∀ y (hy : y < gn.length), x ≤ y → gn[y] < k ∧ f gn[y] = Pa.gone 1) ∧ Hid (∀ i, i < k + (x - g) → (f i).cnt ≤ 1000000)) (fun _ i _ => M - (intOf i).toNat)
          case atStart => exact ⟨0, F, f, by omega, rfl, by simp, HOK3, H3, fun i hi => HC3.out i (by omega)⟩
          case round =>
            clear HOK3 H3 HC3 i1
            obtain ⟨x, F, f, hx, rfl, rfl, H, HGN, HCN⟩ := hrel
            have HOK : Hid (Ok (fnS 40 (k + (x - g)) f (gn.drop x))) := fnS_ok (by omega) (fun i hi => HCN.out i hi) (by rw [List.length_drop, HG.out]; omega)
            have hrm : Hid (((fnS 40 (k + (x - g)) f (gn.drop x)).pls.length : Int) - ((fnS 40 (k + (x - g)) f (gn.drop x)).fr.length : Int) < ((fnS 40 (k + (x - g)) f (gn.drop x)).most : Int)) := by
              show _ < _
              simp only [fnS, List.length_map, List.length_range, List.length_drop, HG.out]
              omega
            by_cases hlt : x < M
            · have i1 : (x : Int) < (M : Int) := by omega
              have hxw : IntKind.i64.wrap ((x : Int) + 1) = (x : Int) + 1 := IntWalk.i64_in _ (by omega)
              by_cases hxg : x < g
              · have hxl : x < gn.length := by rw [HG.out]; exact hxg
                have x1 : (x : Int) < (g : Int) := by omega
                have x0 : (0 : Int) ≤ (x : Int) := by omega
                have hdr : gn.drop x = gn[x] :: gn.drop (x + 1) := List.drop_eq_getElem_cons hxl
                have hnx : (fnS 40 (k + (x - g)) f (gn.drop x)).next = (gn[x], fnS 40 (k + (x - g)) f (gn.drop (x + 1))) := by rw [hdr]; rfl
                have hal : (fnS 40 (k + (x - g)) f (gn.drop x)).alloc 2 ⟨false, false, [], [], []⟩ = fnS 40 (k + (x - g)) (upd f gn[x] (Pa.one 2 Nd.nil)) (gn.drop (x + 1)) := by rw [hdr, fnS_old]; rfl
                obtain ⟨hg1, hg2⟩ := HGN.out x hxl (Nat.le_refl _)
                obtain ⟨G1', G2', G3', G4', hct2⟩ := H.out.gone.tol.sl.at0 (k := x) (by omega)
                rw [refs_at 1 hxl] at hct2
                subst G3'
                have hpl : pl (mk (gn[x] : Int) 1) = (gn[x] : Int) := by rw [pl_mk]; omega
                obtain ⟨rr, hrr⟩ : ∃ rr, mk (gn[x] : Int) 1 = rr := ⟨_, rfl⟩
                obtain ⟨r2, hr2⟩ : ∃ r2, mk (gn[x] : Int) 2 = r2 := ⟨_, rfl⟩
                rw [hrr] at hct2 hpl
                have HPL := Lib.hid hpl
                have HR2 := Lib.hid hr2
                have HNX := Lib.hid hnx
                have HAL := Lib.hid hal
                have hne : (r2 != r2) = false := by simp
                have hxs : k + (x - g) = k := by omega
                have hxs2 : k + (x + 1 - g) = k := by omega
                clear hpl hr2 hnx hal hdr hrr
                go_wp2_with fail
                refine (alloc_yes (lo := wr.heap.size) H.out.live.arn HOK.out hrm.out 1 ⟨Pa.gone 1, by rw [HNX.out]; simp only; rw [fnS_at (by omega), hg2], rfl⟩ (by omega) (RdN.nil _ _ false false) H.out.live.arn.lt (small_nil _ _)).mono ?_
                rintro e w6 ⟨rfl, h6⟩
                rw [HNX.out]
                rw [show (1 + 1 : Nat) = 2 from rfl, HAL.out] at h6
                rw [show mk ((gn[x], fnS 40 (k + (x - g)) f (gn.drop (x + 1))).1 : Int) ((1 + 1 : Nat) : Int) = r2 from HR2.out]
                obtain ⟨F6, h6⟩ := H.out.nx h6
                have H6 := Lib.hid h6
                have d6 : w6.cell? ⟨G1', G2' + x, none⟩ = some (.int .i64 rr) := by
                  obtain ⟨b', o', e', _, hc'⟩ := H6.out.gone.tol.sl.at0 (k := x) (by omega)
                  injection e' with e'
                  injection e' with e1' e2'
                  subst e1' e2'
                  have hc0 := hct2
                  obtain ⟨b2, o2, e2, _, hc2⟩ := H.out.gone.tol.sl.at0 (k := x) (by omega)
                  injection e2 with e2
                  injection e2 with e3 e4
                  subst e3 e4
                  rw [hct2] at hc2
                  rw [hc', ← hc2]
                clear h6 hct2 H
                go_wp2_with fail
                refine (of_walk _ 1 (by omega) _).mono ?_
                rintro e w7 ⟨rfl, rfl⟩
                go_wp2_with fail
                refine (place_walk rr _).mono ?_
                rintro e w7 ⟨rfl, rfl⟩
                rw [HPL.out]
                go_wp2_with fail
                refine (of_walk _ 2 (by omega) _).mono ?_
                rintro e w7 ⟨rfl, rfl⟩
                rw [HR2.out]
                go_wp2
                go_roundw
                case rel =>
                  refine ⟨x + 1, F6, upd f gn[x] (Pa.one 2 Nd.nil), by omega, by go_num, by rw [hxs2], ?_, ?_, ?_⟩
                  · rw [show k + (x + 1 - g) = k + (x - g) from by omega]; exact H6.out
                  · intro y hy hxy
                    have hne2 : gn[y] ≠ gn[x] := fun e => by have := (List.getElem_inj HND.out).1 e; omega
                    rw [upd_other _ _ hne2]
                    exact HGN.out y hy (by omega)
                  · intro i hi
                    by_cases e : i = gn[x]
                    · subst e; rw [upd_same]; simp [Pa.one]
                    · rw [upd_other _ _ e]; exact HCN.out i (by omega)
                case measure => simp [intOf]; omega
              · have x1 : ¬ ((x : Int) < (g : Int)) := by omega
                have hdr : gn.drop x = [] := List.drop_eq_nil_of_le (by rw [HG.out]; omega)
                have hdr2 : gn.drop (x + 1) = [] := List.drop_eq_nil_of_le (by rw [HG.out]; omega)
                have HDR2 := Lib.hid hdr2
                rw [hdr] at H HOK hrm
                have hk2 : k + (x + 1 - g) = k + (x - g) + 1 := by omega
                have HK2 := Lib.hid hk2
                have hNb : k + (x - g) ≤ 100 := by omega
                clear hdr hdr2 hk2
                generalize hNN : k + (x - g) = N at *
                have HNN := Lib.hid hNN
                clear hNN
                have hNw : IntKind.i64.wrap ((N : Int) + 1) = (N : Int) + 1 := IntWalk.i64_in _ (by omega)
                obtain ⟨rr, hrr⟩ : ∃ rr, mk (N : Int) 1 = rr := ⟨_, rfl⟩
                have HRR := Lib.hid hrr
                have hne : (rr != rr) = false := by simp
                clear hrr
                go_wp2_with fail
                refine (alloc_yes (lo := wr.heap.size) H.out.live.arn HOK.out hrm.out 0 ⟨Pa.nil, by simp [fnS, As.next], rfl⟩ (by omega) (RdN.nil _ _ false false) H.out.live.arn.lt (small_nil _ _)).mono ?_
                rintro e w6 ⟨rfl, h6⟩
                rw [show (fnS 40 N f []).next.1 = N from by simp [fnS, As.next]]
                rw [show (0 + 1 : Nat) = 1 from rfl, fnS_new] at h6
                rw [show mk (N : Int) ((0 + 1 : Nat) : Int) = rr from HRR.out]
                obtain ⟨F6, h6⟩ := H.out.nx h6
                have H6 := Lib.hid h6
                clear h6 H
                go_wp2_with fail
                refine (of_walk _ 1 (by omega) _).mono ?_
                rintro e w7 ⟨rfl, rfl⟩
                rw [HRR.out]
                go_wp2
                go_roundw
                case rel =>
                  refine ⟨x + 1, F6, upd f N (Pa.one 1 Nd.nil), by omega, by go_num, by rw [HK2.out]; go_num, ?_, ?_, ?_⟩
                  · rw [HK2.out, HDR2.out]; exact H6.out
                  · intro y hy hxy
                    exact absurd hy (by rw [HG.out]; omega)
                  · intro i hi
                    rw [HK2.out] at hi
                    by_cases e : i = N
                    · subst e; rw [upd_same]; simp [Pa.one]
                    · rw [upd_other _ _ e]; exact HCN.out i (by omega)
                case measure => simp [intOf]; omega
            · have i1 : ¬ ((x : Int) < (M : Int)) := by omega
              obtain rfl : x = M := by omega
              obtain ⟨l', P, Q, hAr⟩ := H.out.live.arn
              have HAr := Lib.hid hAr
              clear hAr
              have hm10 : (m : Int) % 10 = (x : Int) - 1 := by have := HM.out; omega
              have HU : Hid ((((fnS 40 (k + (x - g)) f (gn.drop x)).pls.length : Nat) : Int) - (((fnS 40 (k + (x - g)) f (gn.drop x)).fr.length : Nat) : Int) = (k : Int) - (g : Int) + (x : Int)) := by
                show _ = _
                simp only [fnS, List.length_map, List.length_range, List.length_drop, HG.out]
                omega
              have HM10 := Lib.hid hm10
              clear hm10
              go_wp2_with fail
              refine (used_walk HAr.out HOK.out.len HOK.out.fr).mono ?_
              rintro e w9 ⟨rfl, b9⟩
              rw [HU.out]
              go_wp2
              go_ret
              refine ⟨ret_bool ?_, H.out.live.below.trans (b9.mono H.out.live.below.size)⟩
              have := HM10.out
              have := HM.out
              simp
              omega
set_option maxHeartbeats 8000000 in
theorem arenaReuses_many (t n M : Nat) (A : Option Addr) (q c : Nat) (os : List Int) (m : Nat) (w : World) (ht : t < 256) (hm : m < 256) (ho : Sk .u8 0 255 w A q os) (hqc : q ≤ c) (hn : 1 + t % 20 = n) (hM : 1 + m % 10 = M) (hqn : n < q) :
    Calls Try.prog 4 #[.int .u8 (t : Int), .slice A q c, .int .u8 (m : Int)] w fun e w' => e = .returned (.bool true) ∧ Below w.heap.size w w' := by
  have hn1 : 1 ≤ n ∧ n ≤ 20 := by omega
  have hM1 : 1 ≤ M ∧ M ≤ 10 := by omega
  have HN : Hid (1 + (t : Int) % 20 = (n : Int)) := by show _ = _; omega
  have HM : Hid (1 + (m : Int) % 10 = (M : Int)) := by show _ = _; omega
  have HO := Lib.hid ho
  have hqM := ho.max
  unfold maxLen at hqM
  have hql := Lib.hid ho.len
  have hct := cut8 A q c n (by omega) hqc
  have hmin : (n : Int) < (q : Int) := by omega
  clear hn ho hM
  go_enter Try.func4, Try.ntmps4
  go_wp2_with fail
  refine (awake_walk _).mono ?_
  rintro e w1 ⟨rfl, hb1⟩
  go_wp2_with fail
  refine (new_walk 40 w1).mono ?_
  rintro e w2 ⟨rfl, h2, b2⟩
  rw [show mostOf 40 = 40 from rfl] at h2
  have hti : TI w (fun b => b = w1.heap.size) w1.heap.size (fnS 40 0 (fun _ => Pa.nil) []) (.slice none 0 0) (refs 1 []) w2 :=
    ⟨by simpa [fnS, As.new] using h2, Row.nil _ _ _, (fun c e => by cases e), (fun c e => by have := hb1.size; omega), hb1.trans (b2.mono hb1.size)⟩
  have H2 : Hid (TT w (fun b => b = w1.heap.size) w1.heap.size (fnS 40 0 (fun _ => Pa.nil) []) (.slice none 0 0) (refs 1 []) (.slice none 0 0) (refs 1 []) w2) := ⟨hti, hti, fun c e => by cases e⟩
  clear h2 b2 hb1 hti
  generalize w1.heap.size = a at *
  go_wp2_with fail
  rw [HN.out]
  go_loopw [9, 29] (fun lv i wr => ∃ (k : Nat) (F : Nat → Prop) (f : Nat → Pa), k ≤ n ∧ i = .int .i64 (k : Int) ∧ Hid (TT w F a (fnS 40 k f []) lv (refs 1 (List.range k)) (.slice none 0 0) (refs 1 []) wr) ∧ Hid (∀ i, i < k → f i = Pa.one 1 Nd.nil)) (fun _ i _ => n - (intOf i).toNat)
  case atStart => exact ⟨0, _, _, by omega, rfl, H2, fun i hi => by omega⟩
  case round =>
    clear H2
    obtain ⟨k, F, f, hk, rfl, H, HF⟩ := hrel
    obtain ⟨T1, T2, T3, rfl⟩ := H.out.live.tol.shape
    have HOK : Hid (Ok (fnS 40 k f [])) := fnS_ok (by omega) (fun i hi => by rw [HF.out i hi]; simp [Pa.one]) (by simp)
    by_cases hlt : k < n
    · have i1 : (k : Int) < (n : Int) := by omega
      have hkw : IntKind.i64.wrap ((k : Int) + 1) = (k : Int) + 1 := IntWalk.i64_in _ (by omega)
      go_wp2_with fail
      refine (alloc_yes (lo := wr.heap.size) H.out.live.arn HOK.out (by simp [fnS]; omega) 0 ⟨Pa.nil, by simp [fnS, As.next], rfl⟩ (by omega) (RdN.nil _ _ false false) H.out.live.arn.lt (small_nil _ _)).mono ?_
      rintro e w4 ⟨rfl, h4⟩
      rw [show (fnS 40 k f []).next.1 = k from by simp [fnS, As.next]]
      rw [show (0 + 1 : Nat) = 1 from rfl, fnS_new] at h4
      obtain ⟨F4, h4⟩ := H.out.nx h4
      have H4 := Lib.hid h4
      have hp4 : (refs 1 (List.range k)).length + [mk (k : Int) ((0 + 1 : Nat) : Int)].length ≤ 100000 := by rw [refs_len]; simp; omega
      have hs4 := H4.out.live.below.size
      obtain ⟨rr, hrr⟩ : ∃ rr, mk (k : Int) ((0 + 1 : Nat) : Int) = rr := ⟨_, rfl⟩
      have HRR := Lib.hid hrr
      rw [hrr] at hp4 ⊢
      clear hrr h4
      go_wp2_with (at_builtin; refine pushNB rowR (base := w.heap.size) rfl (.tmp 37) (.tmp 39) rfl _ (refs 1 (List.range k)) rfl (H4.out.next (below_new _ _)).live.tol (some ⟨w4.heap.size, 0, none⟩) 1 1 [rr] rfl (sl_one (by simp)) hp4 (by simp; omega) ?_; intro u5 w5 hr5 hg5 hb5; have H5 := Lib.hid ((H4.out.next (below_new _ _)).pushL hr5 hg5 hb5); clear hr5 hg5 hb5)
      go_roundw
      case rel =>
        refine ⟨k + 1, F4, upd f k (Pa.one 1 Nd.nil), by omega, by go_num, ?_, ?_⟩
        rotate_left
        · intro i hi
          by_cases e : i = k
          · subst e; exact upd_same _ _ _
          · rw [upd_other _ _ e]; exact HF.out i (by omega)
        · rw [List.range_succ, refs_snoc, show mk (k : Int) 1 = rr from HRR.out]; exact H5.out
      case measure => simp [intOf]; omega
    · have i1 : ¬ ((k : Int) < (n : Int)) := by omega
      obtain rfl : k = n := by omega
      have hP0 : Hid (P2 k f (List.range k) []) := ⟨fun i hi => ⟨List.mem_range.1 hi, HF.out i (List.mem_range.1 hi)⟩, fun i hi => by simp at hi, List.nodup_range, List.nodup_nil, fun i hi => by rw [HF.out i hi]; simp [Pa.one]⟩
      clear HF HOK hlt hk
      go_wp2_with fail
      go_loopw [9, 10, 49] (fun lvv gvv i wr => ∃ (j : Nat) (F : Nat → Prop) (f : Nat → Pa) (lv gn : List Nat), j ≤ k ∧ i = .int .i64 (j : Int) ∧ Hid (TT w F a (fnS 40 k f gn) lvv (refs 1 lv) gvv (refs 1 gn) wr) ∧ Hid (P2 k f lv gn) ∧ gn.length = j ∧ lv.length + j = k) (fun _ _ i _ => k - (intOf i).toNat)
      case atStart => exact ⟨0, F, f, List.range k, [], by omega, rfl, H, hP0, rfl, by simp⟩
      case round =>
        clear H hP0 i1
        obtain ⟨j, F, f, lv, gn, hj, rfl, H, hP, hgl, hll⟩ := hrel
        obtain ⟨T1, T2, T3, rfl⟩ := H.out.live.tol.shape
        obtain ⟨G1, G2, G3, rfl⟩ := H.out.gone.tol.shape
        obtain rfl : T2 = lv.length := by obtain ⟨_, _, e, _⟩ := H.out.live.tol.form; injection e with _ e2; rw [e2, refs_len]
        obtain rfl : G2 = gn.length := by obtain ⟨_, _, e, _⟩ := H.out.gone.tol.form; injection e with _ e2; rw [e2, refs_len]
        have HGL := Lib.hid hgl
        have HLL := Lib.hid hll
        clear hgl hll
        have HOK : Hid (Ok (fnS 40 k f gn)) := fnS_ok (by omega) (fun i hi => hP.out.cnt i hi) (by have := HGL.out; omega)
        by_cases hlt : j < k
        · obtain ⟨g, off, z, rfl, hgb, hz, z0, z1, c0⟩ := HO.out.at_ (j := j) (by omega)
          have d0 := (H.out.live.below.cell (p := ⟨g, off + j, none⟩) hgb).trans c0
          have i0 : (0 : Int) ≤ (j : Int) := by omega
          have i1 : (j : Int) < (k : Int) := by omega
          have hjw : IntKind.i64.wrap ((j : Int) + 1) = (j : Int) + 1 := IntWalk.i64_in _ (by omega)
          obtain ⟨z, rfl⟩ := Int.eq_ofNat_of_zero_le z0
          have z255 : z < 256 := by omega
          have hL20 : lv.length ≤ 20 := by have := HLL.out; omega
          have hL0 : 0 < lv.length := by have := HLL.out; omega
          obtain ⟨L, hL⟩ : ∃ L, lv.length = L := ⟨_, rfl⟩
          obtain ⟨ix, hix⟩ : ∃ ix, z % L = ix := ⟨_, rfl⟩
          have hixl : ix < lv.length := by rw [← hix, hL]; exact Nat.mod_lt _ (by omega)
          obtain ⟨gt, offt, rfl, hgtl, hct2⟩ := H.out.live.tol.sl.at0 hixl
          rw [refs_at 1 hixl] at hct2
          obtain ⟨rr, hrr⟩ : ∃ rr, mk (lv[ix] : Int) 1 = rr := ⟨_, rfl⟩
          have HRR := Lib.hid hrr
          rw [hrr] at hct2
          have hLe := Lib.hid hL
          rw [hL] at H hL20 ⊢
          have hLne : (L : Int) ≠ 0 := by omega
          have hixm : (z : Int) % (L : Int) = (ix : Int) := by omega
          have hixm2 : (z : Int).tmod (L : Int) = (ix : Int) := by rw [Int.tmod_eq_emod_of_nonneg (by omega)]; exact hixm
          have x0 : (0 : Int) ≤ (ix : Int) := by omega
          have x1 : (ix : Int) < (L : Int) := by omega
          have hixw : IntKind.i64.wrap ((ix : Int) + 1) = (ix : Int) + 1 := IntWalk.i64_in _ (by omega)
          have HP5 : Hid ((refs 1 gn).length + [rr].length ≤ 100000) := by show _ ≤ _; rw [refs_len]; simp; have := HGL.out; omega
          have hsz := H.out.live.below.size
          clear hrr hL c0 hz z0 z1
          go_wp2_with (at_builtin; refine pushNB rowR (base := w.heap.size) rfl (.tmp 58) (.tmp 63) rfl _ (refs 1 gn) rfl (H.out.next (below_new _ _)).gone.tol (some ⟨wr.heap.size, 0, none⟩) 1 1 [rr] rfl (sl_one (by simp)) HP5.out (by simp; omega) ?_; intro u5 w5 hr5 hg5 hb5; have H5 := Lib.hid ((H.out.next (below_new _ _)).pushG hr5 hg5 hb5); have d5 := tt_readL H5.out hixl HRR.out; clear hr5 hg5 hb5)
          refine (free_yes (i := lv[ix]) (p := Pa.one 1 Nd.nil) H5.out.live.arn HOK.out (by rw [fnS_at (hP.out.live _ (List.getElem_mem hixl)).1, (hP.out.live _ (List.getElem_mem hixl)).2]) rfl HRR.out).mono ?_
          rintro e w6 ⟨rfl, h6⟩
          rw [fnS_free, show (Pa.one 1 Nd.nil).cnt = 1 from rfl] at h6
          obtain ⟨F6, h6⟩ := H5.out.nx h6
          have H6 := Lib.hid h6
          have HP6 := Lib.hid (hP.out.step hixl)
          have hgr : refs 1 gn ++ [rr] = refs 1 (gn ++ [lv[ix]]) := by rw [refs_snoc, HRR.out]
          rw [hgr] at H6
          have HLE : (lv.eraseIdx ix).length + 1 = lv.length := by rw [List.length_eraseIdx, if_pos hixl]; omega
          have HER := Lib.hid HLE
          have HRC := Lib.hid (refs_cut 1 lv ix)
          have hrl := Lib.hid (refs_len 1 lv)
          generalize hlx : lv[ix] = px at *
          generalize hle : lv.eraseIdx ix = lv' at *
          clear h6 H5 H hgr HLE hlx hle d5 hct2 d0
          obtain ⟨C1, hC1, hR1⟩ := cut_upto rowR H6.out.live.tol.sl ix (by omega)
          obtain ⟨C2, hC2, hR2⟩ := cut_from rowR H6.out.live.tol.sl (ix + 1) (by omega)
          have hR2' : ∀ W : World, (Instr.slice 29 (.slice (some ⟨gt, offt, none⟩) L T3) (some (.int .i64 ((ix : Int) + 1))) none none).run Try.prog W = .ok (.slice C2 (L - (ix + 1)) (T3 - (ix + 1))) W := fun W => by have := hR2 W; rw [show (((ix + 1 : Nat)) : Int) = (ix : Int) + 1 from by omega] at this; exact this
          have HC1 := Lib.hid hC1
          have HC2 := Lib.hid hC2
          have z1 : ([] : List Int).length + ((refs 1 lv).take ix).length ≤ 100000 := by rw [List.length_take, hrl.out]; simp; omega
          have z2 : ([] ++ (refs 1 lv).take ix).length + ((refs 1 lv).drop (ix + 1)).length ≤ 100000 := by have := hrl.out; have := HLL.out; simp; omega
          clear hC1 hC2 hR2
          go_wp2_with fail
          go_region_law (first
            | (refine step_pushAll rowR (base := w6.heap.size) rfl (.tmp 72) (.tmp 75) rfl _ [] rfl ?_ C1 ix T3 _ rfl ?_ z1 ?_ ?_
               (· refine Row.of_block ?_ ?_; (· (first | exact h_newd (by simp) | exact h_oldd (h_new (by simp)))); (· go_size))
               (· exact HC1.out.below (by go_grown))
               (· go_size)
               intro u7 w7 hr7 hg7
               have p7 : Below w6.heap.size w6 w7 := Below.trans (by go_grown) ((Below.refl _ _).grown hg7 (by go_size) (fun b e => by first | (injection e with e; subst e; go_size; done) | (injection e with e; subst e; simp; done) | (injection e with e; subst e; simp; omega)))
               have q7 := p7.size
               have HR7 := Lib.hid hr7
               clear hr7 hg7)
            | (refine step_pushAll rowR (base := w6.heap.size) rfl (.tmp 76) (.tmp 80) rfl _ ([] ++ (refs 1 lv).take ix) rfl HR7.out C2 (L - (ix + 1)) (T3 - (ix + 1)) _ rfl (HC2.out.below p7) z2 q7 ?_
               intro u8 w8 hr8 hg8
               have p8 : Below w6.heap.size w6 w8 := p7.grown hg8 q7 (fun b e => (World.ownsRow.lt HR7.out b e).1)
               have HR8 := Lib.hid hr8
               clear hr8 hg8))
          all_goals go_wp2
          all_goals go_roundw
          case rel =>
            refine ⟨j + 1, F6, _, lv', gn ++ [px], by omega, by go_num, ?_, HP6, by simp; exact HGL.out, by have := HER.out; have := HLL.out; omega⟩
            have hr9 := HR8.out
            rw [List.nil_append, HRC.out] at hr9
            exact H6.out.swapL hr9 p8
          case measure => simp [intOf]; omega
        · have i1 : ¬ ((j : Int) < (k : Int)) := by omega
          have H3 : Hid (∀ x (hx : x < gn.length), 0 ≤ x → gn[x] < k ∧ f gn[x] = Pa.gone 1) := fun x hx _ => hP.out.gone _ (List.getElem_mem hx)
          have HC3 := Lib.hid hP.out.cnt
          have HND := Lib.hid hP.out.ng
          have hgk : gn.length ≤ k := by have := HGL.out; omega
          have hge : gn.length = j := HGL.out
          have HGE := Lib.hid hge
          have HOK3 : Hid (TT w F a (fnS 40 (k + (0 - gn.length)) f (gn.drop 0)) (.slice T1 lv.length T3) (refs 1 lv) (.slice G1 gn.length G3) (refs 1 gn) wr) := by rw [Nat.zero_sub, Nat.add_zero, List.drop_zero]; exact H.out
          clear H hP HOK hlt hge
          obtain ⟨g, hg⟩ : ∃ g, gn.length = g := ⟨_, rfl⟩
          have HG := Lib.hid hg
          rw [hg] at HOK3 hgk ⊢
          clear hg
          go_wp2_with fail
          rw [HM.out]
          go_loopw [16, 88] (fun fv i wr => ∃ (x : Nat) (F : Nat → Prop) (f : Nat → Pa), x ≤ M ∧ i = .int .i64 (x : Int) ∧ fv = .int .i64 ((k + (x - g) : Nat) : Int) ∧ Hid (TT w F a (fnS 40 (k + (x - g)) f (gn.drop x)) (.slice T1 lv.length T3) (refs 1 lv) (.slice G1 g G3) (refs 1 gn) wr) ∧ Hid (∀ y (hy : y < gn.length), x ≤ y → gn[y] < k ∧ f gn[y] = Pa.gone 1) ∧ Hid (∀ i, i < k + (x - g) → (f i).cnt ≤ 1000000)) (fun _ i _ => M - (intOf i).toNat)
          case atStart => exact ⟨0, F, f, by omega, rfl, by simp, HOK3, H3, fun i hi => HC3.out i (by omega)⟩
          case round =>
            clear HOK3 H3 HC3 i1
            obtain ⟨x, F, f, hx, rfl, rfl, H, HGN, HCN⟩ := hrel
            have HOK : Hid (Ok (fnS 40 (k + (x - g)) f (gn.drop x))) := fnS_ok (by omega) (fun i hi => HCN.out i hi) (by rw [List.length_drop, HG.out]; omega)
            have hrm : Hid (((fnS 40 (k + (x - g)) f (gn.drop x)).pls.length : Int) - ((fnS 40 (k + (x - g)) f (gn.drop x)).fr.length : Int) < ((fnS 40 (k + (x - g)) f (gn.drop x)).most : Int)) := by
              show _ < _
              simp only [fnS, List.length_map, List.length_range, List.length_drop, HG.out]
              omega
            by_cases hlt : x < M
            · have i1 : (x : Int) < (M : Int) := by omega
              have hxw : IntKind.i64.wrap ((x : Int) + 1) = (x : Int) + 1 := IntWalk.i64_in _ (by omega)
              by_cases hxg : x < g
              · have hxl : x < gn.length := by rw [HG.out]; exact hxg
                have x1 : (x : Int) < (g : Int) := by omega
                have x0 : (0 : Int) ≤ (x : Int) := by omega
                have hdr : gn.drop x = gn[x] :: gn.drop (x + 1) := List.drop_eq_getElem_cons hxl
                have hnx : (fnS 40 (k + (x - g)) f (gn.drop x)).next = (gn[x], fnS 40 (k + (x - g)) f (gn.drop (x + 1))) := by rw [hdr]; rfl
                have hal : (fnS 40 (k + (x - g)) f (gn.drop x)).alloc 2 ⟨false, false, [], [], []⟩ = fnS 40 (k + (x - g)) (upd f gn[x] (Pa.one 2 Nd.nil)) (gn.drop (x + 1)) := by rw [hdr, fnS_old]; rfl
                obtain ⟨hg1, hg2⟩ := HGN.out x hxl (Nat.le_refl _)
                obtain ⟨G1', G2', G3', G4', hct2⟩ := H.out.gone.tol.sl.at0 (k := x) (by omega)
                rw [refs_at 1 hxl] at hct2
                subst G3'
                have hpl : pl (mk (gn[x] : Int) 1) = (gn[x] : Int) := by rw [pl_mk]; omega
                obtain ⟨rr, hrr⟩ : ∃ rr, mk (gn[x] : Int) 1 = rr := ⟨_, rfl⟩
                obtain ⟨r2, hr2⟩ : ∃ r2, mk (gn[x] : Int) 2 = r2 := ⟨_, rfl⟩
                rw [hrr] at hct2 hpl
                have HPL := Lib.hid hpl
                have HR2 := Lib.hid hr2
                have HNX := Lib.hid hnx
                have HAL := Lib.hid hal
                have hne : (r2 != r2) = false := by simp
                have hxs : k + (x - g) = k := by omega
                have hxs2 : k + (x + 1 - g) = k := by omega
                clear hpl hr2 hnx hal hdr hrr
                go_wp2_with fail
                refine (alloc_yes (lo := wr.heap.size) H.out.live.arn HOK.out hrm.out 1 ⟨Pa.gone 1, by rw [HNX.out]; simp only; rw [fnS_at (by omega), hg2], rfl⟩ (by omega) (RdN.nil _ _ false false) H.out.live.arn.lt (small_nil _ _)).mono ?_
                rintro e w6 ⟨rfl, h6⟩
                rw [HNX.out]
                rw [show (1 + 1 : Nat) = 2 from rfl, HAL.out] at h6
                rw [show mk ((gn[x], fnS 40 (k + (x - g)) f (gn.drop (x + 1))).1 : Int) ((1 + 1 : Nat) : Int) = r2 from HR2.out]
                obtain ⟨F6, h6⟩ := H.out.nx h6
                have H6 := Lib.hid h6
                have d6 : w6.cell? ⟨G1', G2' + x, none⟩ = some (.int .i64 rr) := by
                  obtain ⟨b', o', e', _, hc'⟩ := H6.out.gone.tol.sl.at0 (k := x) (by omega)
                  injection e' with e'
                  injection e' with e1' e2'
                  subst e1' e2'
                  have hc0 := hct2
                  obtain ⟨b2, o2, e2, _, hc2⟩ := H.out.gone.tol.sl.at0 (k := x) (by omega)
                  injection e2 with e2
                  injection e2 with e3 e4
                  subst e3 e4
                  rw [hct2] at hc2
                  rw [hc', ← hc2]
                clear h6 hct2 H
                go_wp2_with fail
                refine (of_walk _ 1 (by omega) _).mono ?_
                rintro e w7 ⟨rfl, rfl⟩
                go_wp2_with fail
                refine (place_walk rr _).mono ?_
                rintro e w7 ⟨rfl, rfl⟩
                rw [HPL.out]
                go_wp2_with fail
                refine (of_walk _ 2 (by omega) _).mono ?_
                rintro e w7 ⟨rfl, rfl⟩
                rw [HR2.out]
                go_wp2
                go_roundw
                case rel =>
                  refine ⟨x + 1, F6, upd f gn[x] (Pa.one 2 Nd.nil), by omega, by go_num, by rw [hxs2], ?_, ?_, ?_⟩
                  · rw [show k + (x + 1 - g) = k + (x - g) from by omega]; exact H6.out
                  · intro y hy hxy
                    have hne2 : gn[y] ≠ gn[x] := fun e => by have := (List.getElem_inj HND.out).1 e; omega
                    rw [upd_other _ _ hne2]
                    exact HGN.out y hy (by omega)
                  · intro i hi
                    by_cases e : i = gn[x]
                    · subst e; rw [upd_same]; simp [Pa.one]
                    · rw [upd_other _ _ e]; exact HCN.out i (by omega)
                case measure => simp [intOf]; omega
              · have x1 : ¬ ((x : Int) < (g : Int)) := by omega
                have hdr : gn.drop x = [] := List.drop_eq_nil_of_le (by rw [HG.out]; omega)
                have hdr2 : gn.drop (x + 1) = [] := List.drop_eq_nil_of_le (by rw [HG.out]; omega)
                have HDR2 := Lib.hid hdr2
                rw [hdr] at H HOK hrm
                have hk2 : k + (x + 1 - g) = k + (x - g) + 1 := by omega
                have HK2 := Lib.hid hk2
                have hNb : k + (x - g) ≤ 100 := by omega
                clear hdr hdr2 hk2
                generalize hNN : k + (x - g) = N at *
                have HNN := Lib.hid hNN
                clear hNN
                have hNw : IntKind.i64.wrap ((N : Int) + 1) = (N : Int) + 1 := IntWalk.i64_in _ (by omega)
                obtain ⟨rr, hrr⟩ : ∃ rr, mk (N : Int) 1 = rr := ⟨_, rfl⟩
                have HRR := Lib.hid hrr
                have hne : (rr != rr) = false := by simp
                clear hrr
                go_wp2_with fail
                refine (alloc_yes (lo := wr.heap.size) H.out.live.arn HOK.out hrm.out 0 ⟨Pa.nil, by simp [fnS, As.next], rfl⟩ (by omega) (RdN.nil _ _ false false) H.out.live.arn.lt (small_nil _ _)).mono ?_
                rintro e w6 ⟨rfl, h6⟩
                rw [show (fnS 40 N f []).next.1 = N from by simp [fnS, As.next]]
                rw [show (0 + 1 : Nat) = 1 from rfl, fnS_new] at h6
                rw [show mk (N : Int) ((0 + 1 : Nat) : Int) = rr from HRR.out]
                obtain ⟨F6, h6⟩ := H.out.nx h6
                have H6 := Lib.hid h6
                clear h6 H
                go_wp2_with fail
                refine (of_walk _ 1 (by omega) _).mono ?_
                rintro e w7 ⟨rfl, rfl⟩
                rw [HRR.out]
                go_wp2
                go_roundw
                case rel =>
                  refine ⟨x + 1, F6, upd f N (Pa.one 1 Nd.nil), by omega, by go_num, by rw [HK2.out]; go_num, ?_, ?_, ?_⟩
                  · rw [HK2.out, HDR2.out]; exact H6.out
                  · intro y hy hxy
                    exact absurd hy (by rw [HG.out]; omega)
                  · intro i hi
                    rw [HK2.out] at hi
                    by_cases e : i = N
                    · subst e; rw [upd_same]; simp [Pa.one]
                    · rw [upd_other _ _ e]; exact HCN.out i (by omega)
                case measure => simp [intOf]; omega
            · have i1 : ¬ ((x : Int) < (M : Int)) := by omega
              obtain rfl : x = M := by omega
              obtain ⟨l', P, Q, hAr⟩ := H.out.live.arn
              have HAr := Lib.hid hAr
              clear hAr
              have hm10 : (m : Int) % 10 = (x : Int) - 1 := by have := HM.out; omega
              have HU : Hid ((((fnS 40 (k + (x - g)) f (gn.drop x)).pls.length : Nat) : Int) - (((fnS 40 (k + (x - g)) f (gn.drop x)).fr.length : Nat) : Int) = (k : Int) - (g : Int) + (x : Int)) := by
                show _ = _
                simp only [fnS, List.length_map, List.length_range, List.length_drop, HG.out]
                omega
              have HM10 := Lib.hid hm10
              clear hm10
              go_wp2_with fail
              refine (used_walk HAr.out HOK.out.len HOK.out.fr).mono ?_
              rintro e w9 ⟨rfl, b9⟩
              rw [HU.out]
              go_wp2
              go_ret
              refine ⟨ret_bool ?_, H.out.live.below.trans (b9.mono H.out.live.below.size)⟩
              have := HM10.out
              have := HM.out
              simp
              omega
theorem arenaReuses_walk (t : Nat) (A : Option Addr) (q c : Nat) (os : List Int) (m : Nat) (w : World) (ht : t < 256) (hm : m < 256) (ho : Sk .u8 0 255 w A q os) (hqc : q ≤ c) :
    Calls Try.prog 4 #[.int .u8 (t : Int), .slice A q c, .int .u8 (m : Int)] w fun e w' => e = .returned (.bool true) ∧ Below w.heap.size w w' := by
  by_cases h : q ≤ 1 + t % 20
  · exact arenaReuses_few t _ _ A q c os m w ht hm ho hqc rfl rfl h
  · exact arenaReuses_many t _ _ A q c os m w ht hm ho hqc rfl rfl (by omega)
end Go.Proofs.Ytbalhjfkkigchaa
