/-
  The law WorldGrace.
-/
import Derived.Test.YtmnbdhngadjmiaaGm8
import Derived.Test.YtmnbdhngadjmiaaSk8
namespace Go.Proofs.Ytmnbdhngadjmiaa
open Go.ChangeShapes Go.WideShapes Go.ChangeAt Go.RowKit
set_option linter.unusedVariables false
set_option linter.unusedSimpArgs false
set_option maxRecDepth 20000

theorem made_one (v : Value) (n : Nat) : madeCells #[v] (n * 1) = ((List.range n).map fun _ => v).toArray := by
  apply Array.ext
  · rw [size_madeCells]; simp
  · intro j h1 h2
    simp [madeCells, Nat.mod_one]
theorem thr_info : (Try.prog.info? 55).map (fun i => (i.zero, i.size, i.bytes)) = some (some nilp, 1, 8) := by kernel_rfl
theorem run_mkT (n : Nat) (hn : n ≤ 64) (W : World) : (Instr.makeSlice 73 (.int .i64 (n : Int)) (.int .i64 (n : Int))).run Try.prog W = .ok (.slice (some ⟨W.heap.size, 0, none⟩) n n) (W.alloc (.cells (lcells n fun _ => nilp) 55)) := by
  obtain ⟨i0, hi0, hz0, hz1, hz2⟩ := info_parts thr_info
  have := run_make (P := Try.prog) W 73 55 i0 _ Try.underlying73 hi0 hz0 .i64 .i64 (n : Int) (n : Int) (by omega) (Int.le_refl _) (by rw [hz2]; omega) (by omega)
  rw [hz1] at this
  rw [this, lcells, ← made_one nilp n]
  rfl
theorem run_mkI (n : Nat) (hn : n ≤ 64) (W : World) : (Instr.makeSlice 37 (.int .i64 (n : Int)) (.int .i64 (n : Int))).run Try.prog W = .ok (.slice (some ⟨W.heap.size, 0, none⟩) n n) (W.alloc (.cells (scells n fun _ => 0) 2)) := by
  obtain ⟨i0, hi0, hz0, hz1, hz2⟩ := info_parts rowK.info
  have := run_make (P := Try.prog) W 37 2 i0 _ Try.underlying37 hi0 hz0 .i64 .i64 (n : Int) (n : Int) (by omega) (Int.le_refl _) (by rw [hz2]; omega) (by omega)
  rw [hz1] at this
  rw [this, scells, ← made_one (.int .i64 0) n]
  rfl
/-- The law's state: its memory, and what holds of all. -/
structure GJ (W : World) (d : Wd) (L T g1 g2 : Nat) (pcs : Nat → Option Pc) (since : Nat → Int) (s : Sig) (vs : Nat → Value) (wr : World) : Prop where
  ge : GE W d L T g1 g2 pcs since s vs wr
  jn : Jn L pcs since T s
section
variable {W : World} {d : Wd} {L T g1 g2 i : Nat} {pcs : Nat → Option Pc} {since : Nat → Int} {s s' : Sig} {vs : Nat → Value} {wr w' : World}
theorem gj_new {v : World} (h : Ow W d (newSig 5 L) v) : GJ W d L 0 v.heap.size (v.heap.size + 1) (fun _ => none) (fun _ => 0) (newSig 5 L) (fun _ => nilp) ((v.alloc (.cells (lcells L fun _ => nilp) 55)).alloc (.cells (scells L fun _ => 0) 2)) := by
  obtain ⟨⟨FW, h1, h2⟩, hb⟩ := h
  have b2 : Below v.heap.size v ((v.alloc (.cells (lcells L fun _ => nilp) 55)).alloc (.cells (scells L fun _ => 0) 2)) := ((Below.refl _ v).alloc (Nat.le_refl _) _).alloc (by simp) _
  have hsz := hb.size
  refine ⟨⟨FW, fun _ _ => False, h1.below b2, hb.trans (b2.mono hsz), h_old (heap_alloc_new _ _), h_new (by simp), ?_, fun i _ b e => e.elim, fun i j b _ _ _ e => e.elim, fun i _ => .inl rfl, by omega, by omega, by omega⟩, ⟨?_, rfl, by simp only [newSig]; omega, fun k _ pc e => (by cases e), fun k _ e => absurd rfl e, fun j _ e c h => (by cases h), fun k => (by omega)⟩⟩
  · intro b f
    have h3 := h1.lt b f
    refine ⟨?_, by omega, by omega⟩
    by_cases e : b < W.heap.size
    · exact absurd f (h2 b e).2
    · omega
  · apply List.ext_getElem?
    intro j
    simp only [newSig]
    by_cases hj : j < L
    · rw [annS8_at _ hj, List.getElem?_replicate, if_pos hj]; rfl
    · simp [annS8, hj]
theorem GJ.inv (h : GJ W d L T g1 g2 pcs since s vs wr) (hL : L ≤ 64) (hT : T ≤ 900) : Inv L 0 s := by
  have hn := h.jn.now
  have hI := inv_new 5 L 0 (by omega) hL (by omega)
  have e : s = ⟨(newSig 5 L).ar, s.now, annS8 L fun k => annO (pcs k)⟩ := by
    have h1 := h.jn.S
    have h2 := h.jn.ar
    cases s
    simp only at h1 h2
    rw [h1, h2]
  rw [e]
  refine ⟨by simp [annS8], hL, hI.pl, hI.cnt, hI.flt, hI.frl, hI.fr, by simp only; omega, ?_, ?_⟩
  · intro x hx
    obtain ⟨k, hk, rfl⟩ := List.mem_map.1 hx
    have hk : k < L := by simpa using hk
    by_cases ha : annO (pcs k) = -1
    · simp only [ha]; exact in01.2.2
    · have h1 := h.jn.snc k hk ha
      cases hp : pcs k with
      | none => rw [hp] at ha; exact absurd rfl ha
      | some pc =>
        have h2 := (h.jn.rd k hk pc hp).2
        rw [hp] at ha h1
        have h3 : in64 (ann pc) := by
          cases pc with
          | p0 => exact absurd rfl ha
          | p1 e => exact absurd rfl ha
          | p2 e j => have := h2 e rfl; show in64 e; unfold in64; omega
          | p3 e => have := h2 e rfl; show in64 e; unfold in64; omega
          | p4 e n => have := h2 e rfl; show in64 e; unfold in64; omega
          | p5 e => have := h2 e rfl; show in64 e; unfold in64; omega
        show in64 (annO (pcs k))
        rw [hp]
        exact h3
  · intro x hx
    obtain ⟨k, hk, rfl⟩ := List.mem_map.1 hx
    exact ⟨by simp, fun p hp => by cases hp⟩
theorem GJ.empty (h : GJ W d L T g1 g2 pcs since s vs wr) : ∀ x, s.S[i]? = some x → x.2 = [] := by
  intro x hx
  rw [h.jn.S] at hx
  obtain ⟨k, hk, rfl⟩ := List.mem_map.1 (List.mem_of_getElem? hx)
  rfl
theorem GJ.said (h : GJ W d L T g1 g2 pcs since s vs wr) (hi : i < L) : saidOf s.S i = annO (pcs i) := by rw [h.jn.S]; exact annS8_said _ hi
theorem GJ.len (h : GJ W d L T g1 g2 pcs since s vs wr) : s.S.length = L := by rw [h.jn.S]; simp [annS8]
theorem GJ.ws (h : GJ W d L T g1 g2 pcs since s vs wr) : ∃ FW, WS d FW wr s := by obtain ⟨FW, P, h⟩ := h.ge; exact ⟨FW, h.ws⟩
theorem GJ.below (h : GJ W d L T g1 g2 pcs since s vs wr) : Below W.heap.size W wr := by obtain ⟨FW, P, h⟩ := h.ge; exact h.below
theorem GJ.cells (h : GJ W d L T g1 g2 pcs since s vs wr) (hi : i < L) : wr.cell? ⟨g1, i, none⟩ = some (vs i) ∧ wr.frozen? ⟨g1, i, none⟩ = false ∧ wr.cell? ⟨g2, i, none⟩ = some (.int .i64 (since i)) ∧ wr.frozen? ⟨g2, i, none⟩ = false ∧ wr.cell? ⟨d.W, 2, none⟩ = some (ptr d.E) := by
  obtain ⟨FW, P, h⟩ := h.ge
  exact ⟨(h.lcell hi).1, (h.lcell hi).2, (h.scell hi).1, (h.scell hi).2, h.ws.cells.2.2.1⟩
theorem GJ.drewN (h : GJ W d L T g1 g2 pcs since s vs wr) (q : Nat) : GJ W d L T g1 g2 pcs since s vs (wr.drewN q) := by
  obtain ⟨⟨FW, P, h⟩, hj⟩ := h
  have hb : Below wr.heap.size wr (wr.drewN q) := below_drewN (Below.refl _ wr) q
  exact ⟨⟨FW, P, h.ws.below hb, below_drewN h.below q, h.lrow, h.srow, h.fw, h.own, h.sep, fun i hi => (h.th i hi).keep (fun b _ => rfl) (Nat.le_refl _) (Nat.le_refl _), h.g⟩, hj⟩
end
set_option maxHeartbeats 4000000 in
theorem worldGrace_walk (x : Nat) (A : Option Addr) (n c : Nat) (l : List Int) (hx : x < 256) (w : World) (hs : Sk .u8 0 255 w A n l) :
    Calls Try.prog 9 #[.int .u8 (x : Int), .slice A n c] w fun e w' => e = .returned (.bool true) ∧ Below w.heap.size w w' := by
  have hmax2 : (n : Int) ≤ 9223372036854775807 := by have := hs.max; unfold maxLen at this; omega
  have HSK := Lib.hid hs
  clear hs
  go_enter Try.func9, Try.ntmps9
  go_wp2_with fail
  refine (awake_walk w).mono ?_
  rintro e v1 ⟨rfl, b1⟩
  by_cases h2 : 150 < n
  · have i2 : (150 : Int) < (n : Int) := by omega
    go_wp2
    go_ret
    exact ⟨rfl, b1⟩
  have i2 : ¬ (150 : Int) < (n : Int) := by omega
  obtain ⟨L, hL, hL1, hL2⟩ : ∃ L : Nat, 1 + x % 4 = L ∧ 1 ≤ L ∧ L ≤ 4 := ⟨_, rfl, by omega, by omega⟩
  have a1 : IntKind.i64.wrap (x : Int) = (x : Int) := IntWalk.i64_in _ (by omega)
  have d1 : (x : Int).tmod 4 = ((x % 4 : Nat) : Int) := by rw [Int.tmod_eq_emod_of_nonneg (by omega)]; rfl
  have e1 : IntKind.i64.wrap (1 + ((x % 4 : Nat) : Int)) = (L : Int) := by rw [← hL]; rw [IntWalk.i64_in _ (by omega)]; omega
  have w1 : IntKind.i64.wrap ((x % 4 : Nat) : Int) = ((x % 4 : Nat) : Int) := IntWalk.i64_in _ (by omega)
  generalize ((x % 4 : Nat) : Int) = x4 at *
  clear hL
  have mk1 := run_mkT L (by omega)
  have mk2 := run_mkI L (by omega)
  go_wp2_with fail
  refine (some_walk (L := L) (m := 5) b1 (by omega) (by decide)).mono ?_
  rintro e v2 ⟨d, rfl, hO⟩
  obtain ⟨X, g1, g2, hX, hg1, hg2, hJ⟩ : ∃ (X : World) (g1 g2 : Nat), (v2.alloc (.cells (lcells L fun _ => nilp) 55)).alloc (.cells (scells L fun _ => 0) 2) = X ∧ v2.heap.size = g1 ∧ g1 + 1 = g2 ∧ GJ w d L 0 g1 g2 (fun _ => none) (fun _ => 0) (newSig 5 L) (fun _ => nilp) X := ⟨_, _, _, rfl, rfl, rfl, gj_new hO⟩
  have HJ := Lib.hid hJ
  clear hO b1 hJ
  go_wp2_with fail
  clear mk1 mk2 hX hg1 hg2 a1 d1 e1 w1 i2
  go_loopg [31] n (fun gk i wr => ∃ (q : Nat) (pcs : Nat → Option Pc) (since : Nat → Int) (s : Sig) (vs : Nat → Value), q + gk = n ∧ i = .int .i64 (q : Int) ∧ Hid (GJ w d L q g1 g2 pcs since s vs wr))
  case atStart => exact ⟨0, _, _, _, _, by omega, rfl, HJ.out⟩
  case round =>
    clear HJ
    obtain ⟨q, pcs, since, s, vs, hq, rfl, HH⟩ := hrel
    by_cases hlt : q < n
    case neg =>
      have i1 : ¬ ((q : Int) < (n : Int)) := by omega
      have HB := Lib.hid HH.out.below
      clear HH
      go_wp2
      go_ret
      exact ⟨rfl, HB.out⟩
    have i1 : (q : Int) < (n : Int) := by omega
    have i0 : (0 : Int) ≤ (q : Int) := by omega
    have hkw : IntKind.i64.wrap ((q : Int) + 1) = (q : Int) + 1 := IntWalk.i64_in _ (by omega)
    obtain ⟨b, off, z, rfl, hz, z1, z2, hc⟩ := HSK.out.in_ HH.out.below hlt
    obtain ⟨zn, rfl⟩ := Int.eq_ofNat_of_zero_le z1
    obtain ⟨i, hi, hiL⟩ : ∃ i : Nat, zn % L = i ∧ i < L := ⟨_, rfl, Nat.mod_lt _ (by omega)⟩
    have a1 : IntKind.i64.wrap (zn : Int) = (zn : Int) := IntWalk.i64_in _ (by omega)
    have d1 : (zn : Int).tmod (L : Int) = (i : Int) := by rw [← hi, Int.tmod_eq_emod_of_nonneg (by omega)]; rfl
    have L0 : ¬ (L : Int) = 0 := by omega
    have w2 : IntKind.i64.wrap (i : Int) = (i : Int) := IntWalk.i64_in _ (by omega)
    have j0 : (0 : Int) ≤ (i : Int) := by omega
    have j1 : (i : Int) < (L : Int) := by omega
    obtain ⟨c1, c2, c3, c4, c5⟩ := HH.out.cells hiL
    clear hi hz
    go_upto_region 13 with fail
    go_cut [50] (fun v wx => v = .bool (pcs i).isNone ∧ wr = wx)
    case first =>
      rcases HH.out.ge.val hiL with ⟨hv, hn⟩ | ⟨a, hv⟩
      · rw [hv] at c1
        have HN : Hid ((pcs i).isNone = true) := by show _ = _; rw [hn]; rfl
        clear hv hn HH
        go_wp2
        go_meet
        case rel => exact ⟨by rw [HN.out], rfl⟩
      · rw [hv] at c1
        cases hp : pcs i with
        | none =>
          have HD := (HH.out.ge.done hiL).1 hp
          rw [hv] at HD
          have HD := Lib.hid HD
          have HN := Lib.hid (congrArg Option.isNone hp)
          clear hv HH hp
          go_wp2_with fail
          refine HD.out.mono ?_
          rintro e u1 ⟨rfl, rfl⟩
          go_wp2
          go_meet
          case rel => exact ⟨by rw [HN.out]; rfl, rfl⟩
        | some pc =>
          have HD := (HH.out.ge.done hiL).2 pc hp
          rw [hv] at HD
          have HD := Lib.hid HD
          have HN := Lib.hid (congrArg Option.isNone hp)
          clear hv HH hp
          go_wp2_with fail
          refine HD.out.mono ?_
          rintro e u1 ⟨rfl, rfl⟩
          go_wp2
          go_meet
          case rel => exact ⟨by rw [HN.out]; rfl, rfl⟩
    case rest =>
      obtain ⟨rfl, hwc⟩ := hcut
      subst hwc
      go_upto_if 50 with fail
      go_cut [] (fun wx => ∃ (pcs1 : Nat → Option Pc) (vs1 : Nat → Value) (pc : Pc), Hid (pcs1 i = some pc ∧ GJ w d L q g1 g2 pcs1 since s vs1 wx))
      case first =>
        cases hp : pcs i with
        | some pc =>
          have HP := Lib.hid hp
          clear hp
          go_wp2
          go_meet
          case rel => exact ⟨pcs, vs, pc, HP.out, HH.out⟩
        | none =>
          have HS := Lib.hid (HH.out.ge.start hiL hp)
          have HJ := Lib.hid (HH.out.jn.start hp)
          clear hp HH
          go_wp2_with fail
          refine HS.out.mono ?_
          rintro e u1 ⟨a, rfl, y1, y2, y3⟩
          have HG := Lib.hid y3
          clear HS y3 c1 c2 c3 c4 c5
          go_wp2
          go_meet
          case rel => exact ⟨_, _, .p0, upd_at _ _ _, HG.out, HJ.out⟩
      case rest =>
        clear HH c1 c2 c3 c4 c5 a1 d1 w2
        obtain ⟨pcs1, vs1, pc, HP⟩ := hcut
        have HH : Hid (GJ w d L q g1 g2 pcs1 since s vs1 wc) := HP.out.2
        have HPC : Hid (pcs1 i = some pc) := HP.out.1
        clear HP
        obtain ⟨c1, c2, c3, c4, c5⟩ := HH.out.cells hiL
        obtain ⟨FW, hWS⟩ := HH.out.ws
        have S1 := nxW_said (i := i) hWS (by rw [HH.out.len]; exact hiL)
        have hsd : (gSaid i s).1 = ann pc := by
          show saidOf s.S i = _
          rw [HH.out.said hiL, HPC.out]; rfl
        rw [hsd] at S1
        have S1 := Lib.hid S1
        have hokp := (HH.out.jn.rd i hiL pc HPC.out).1
        have HST := Lib.hid (HH.out.ge.step hiL (by omega) HPC.out hokp (HH.out.inv (by omega) (by omega)) HH.out.empty (by omega))
        have HJS := Lib.hid (HH.out.jn.step hiL HPC.out)
        clear hWS hsd hokp HH
        generalize nxP L i pc s = os at HST HJS
        obtain ⟨o', s'⟩ := os
        simp only at HST HJS
        have HSI : Hid (since' pcs1 since i o' s'.now = if ann pc = -1 ∧ annO o' ≠ -1 then upd since i s'.now else since) := by
          show _ = _
          unfold since'
          rw [HPC.out]
          rfl
        rw [HSI.out] at HJS
        clear HSI HPC
        go_wp2_with fail
        refine S1.out.mono ?_
        rintro e u1 ⟨rfl, rfl⟩
        clear S1
        go_wp2_with fail
        refine HST.out.mono ?_
        rintro e u2 ⟨⟨bb, rfl⟩, hG⟩
        have HG := Lib.hid hG
        clear HST hG c1 c2 c3 c4 c5
        have HOI : Hid (annO (upd pcs1 i o' i) = annO o') := by show _ = _; rw [upd_at]
        generalize upd pcs1 i o' = pcs2 at HG HJS HOI
        have HSJ : Hid (Jn L pcs2 (if ann pc = -1 ∧ annO o' ≠ -1 then upd since i s'.now else since) (q + 1) s') := HJS.out
        clear HJS
        obtain ⟨FWa, Pa, hGa⟩ := HG.out
        have S2 := nxW_said (i := i) hGa.ws (by rw [HSJ.out.S]; simpa [annS8] using hiL)
        have hsd2 : (gSaid i s').1 = annO o' := by
          show saidOf s'.S i = _
          rw [HSJ.out.S, annS8_said _ hiL, HOI.out]
        rw [hsd2] at S2
        have S2 := Lib.hid S2
        have S3 := Lib.hid (nxW_now hGa.ws)
        obtain ⟨c3, c4⟩ := hGa.scell hiL
        have c5 := hGa.ws.cells.2.2.1
        clear hGa hsd2
        go_upto_region 17 with fail
        go_cut [78, 12] (fun v _ wx => v = .bool (decide (ann pc = -1 ∧ annO o' ≠ -1)) ∧ u2 = wx)
        case first =>
          by_cases f1 : ann pc = -1
          · by_cases f2 : annO o' = -1
            · have hd : decide (ann pc = -1 ∧ annO o' ≠ -1) = false := by simp [f2]
              rw [f2] at S2
              have b1 : (ann pc == -1) = true := by simpa using f1
              have HDD := Lib.hid hd
              clear hd
              generalize ann pc = was at *
              go_wp2_with fail
              refine S2.out.mono ?_
              rintro e u3 ⟨rfl, rfl⟩
              go_wp2
              go_meet
              case rel => exact ⟨by rw [HDD.out], rfl⟩
            · have hd : decide (ann pc = -1 ∧ annO o' ≠ -1) = true := by simp [f1, f2]
              have b1 : (ann pc == -1) = true := by simpa using f1
              have b2 : (annO o' != -1) = true := by simpa using f2
              have HDD := Lib.hid hd
              clear hd
              generalize ann pc = was at *
              generalize annO o' = an at *
              go_wp2_with fail
              refine S2.out.mono ?_
              rintro e u3 ⟨rfl, rfl⟩
              go_wp2
              go_meet
              case rel => exact ⟨by rw [HDD.out], rfl⟩
          · have hd : decide (ann pc = -1 ∧ annO o' ≠ -1) = false := by simp [f1]
            have b1 : (ann pc == -1) = false := by simpa using f1
            have HDD := Lib.hid hd
            clear hd
            generalize ann pc = was at *
            go_wp2
            go_meet
            case rel => exact ⟨by rw [HDD.out], rfl⟩
        case rest =>
          obtain ⟨rfl, hwc⟩ := hcut
          subst hwc
          clear S2 HOI
          generalize hcd : decide (ann pc = -1 ∧ annO o' ≠ -1) = cd at *
          have HCD : Hid ((if ann pc = -1 ∧ annO o' ≠ -1 then upd since i s'.now else since) = if cd then upd since i s'.now else since) := by
            show _ = _
            by_cases f : ann pc = -1 ∧ annO o' ≠ -1
            · rw [if_pos f]; have : cd = true := by rw [← hcd]; simpa using f
              rw [this]; rfl
            · rw [if_neg f]; have : cd = false := by rw [← hcd]; simpa using f
              rw [this]; rfl
          rw [HCD.out] at HSJ
          clear HCD hcd
          go_upto_if 78 with fail
          go_cut [] (fun wx => Hid (GJ w d L (q + 1) g1 g2 pcs2 (if cd then upd since i s'.now else since) s' vs1 wx))
          case first =>
            cases cd with
            | false =>
              go_wp2
              go_meet
              case rel => exact ⟨HG.out, HSJ.out⟩
            | true =>
              have HG2 := Lib.hid (HG.out.sset hiL s'.now)
              clear HG
              generalize hsn : s'.now = nw at *
              go_wp2_with fail
              refine S3.out.mono ?_
              rintro e u3 ⟨rfl, rfl⟩
              go_wp2
              go_meet
              case rel => exact ⟨HG2.out, HSJ.out⟩
          case rest =>
            clear HG HSJ S3 c3 c4 c5
            have HJ2 := Lib.hid hcut.out
            clear hcut
            generalize (if cd then upd since i s'.now else since) = snc at HJ2
            go_wp2_with fail
            go_loopg [88] L (fun gk i wr => ∃ k : Nat, k + gk = L ∧ i = .int .i64 (k : Int) ∧ Hid (GJ w d L (q + 1) g1 g2 pcs2 snc s' vs1 wr))
            case atStart => exact ⟨0, by omega, rfl, HJ2.out⟩
            case round =>
              clear HJ2
              obtain ⟨k, hk, rfl, HH⟩ := hrel
              by_cases hkL : k < L
              case neg =>
                have i3 : ¬ ((k : Int) < (L : Int)) := by omega
                go_wp2
                go_roundg (n - q - 1)
                case measure => omega
                case rel => exact ⟨q + 1, pcs2, snc, s', vs1, by omega, by go_num, HH.out⟩
              have i3 : (k : Int) < (L : Int) := by omega
              have i4 : (0 : Int) ≤ (k : Int) := by omega
              have hkw2 : IntKind.i64.wrap ((k : Int) + 1) = (k : Int) + 1 := IntWalk.i64_in _ (by omega)
              obtain ⟨-, -, c3, c4, c5⟩ := HH.out.cells hkL
              have hbig := HH.out.jn.big k
              have hnow := HH.out.jn.now
              have hsn := HH.out.jn.snc k hkL
              have w5 : IntKind.i64.wrap (snc k + 1) = snc k + 1 := IntWalk.i64_in _ (by omega)
              have HQ1 : Hid (∀ t, Calls Try.prog 28 #[ptr d.E, .int .i64 (k : Int)] (wr.drewN t) fun e w'' => e = .returned (.int .i64 (annO (pcs2 k))) ∧ ∃ t', w'' = wr.drewN t') := by
                intro t
                obtain ⟨FWb, hWb⟩ := (HH.out.drewN t).ws
                refine (nxW_said (i := k) hWb (by rw [HH.out.len]; exact hkL)).mono ?_
                rintro e w'' ⟨rfl, rfl⟩
                refine ⟨?_, t, rfl⟩
                show Ending.returned (.int .i64 (saidOf s'.S k)) = _
                rw [HH.out.said hkL]
              have HQ2 : Hid (∀ t, Calls Try.prog 20 #[ptr d.E] (wr.drewN t) fun e w'' => e = .returned (.int .i64 s'.now) ∧ ∃ t', w'' = wr.drewN t') := by
                intro t
                obtain ⟨FWb, hWb⟩ := (HH.out.drewN t).ws
                refine (nxW_now hWb).mono ?_
                rintro e w'' ⟨rfl, rfl⟩
                exact ⟨rfl, t, rfl⟩
              have HEND : Hid (∀ t, GJ w d L (q + 1) g1 g2 pcs2 snc s' vs1 (wr.drewN t)) := fun t => HH.out.drewN t
              clear HH hbig hnow
              generalize annO (pcs2 k) = an at *
              generalize s'.now = nw at *
              generalize snc k = sk at *
              by_cases f1 : an = -1
              · have b1 : (an != -1) = false := by simpa using f1
                clear hsn
                go_wp2_with fail
                go_quiet (first
                  | (go_at_call 28; exact HQ1.out _)
                  | (go_at_call 20; exact HQ2.out _))
                go_wp2
                go_roundg (gk - 1)
                case measure => omega
                case rel => exact ⟨k + 1, by omega, by go_num, HEND.out _⟩
              · have b1 : (an != -1) = true := by simpa using f1
                have f2 := hsn f1
                have b2 : ¬ (sk + 1 < nw) := by omega
                clear hsn
                go_wp2_with fail
                go_quiet (first
                  | (go_at_call 28; exact HQ1.out _)
                  | (go_at_call 20; exact HQ2.out _))
                go_wp2
                go_roundg (gk - 1)
                case measure => omega
                case rel => exact ⟨k + 1, by omega, by go_num, HEND.out _⟩
end Go.Proofs.Ytmnbdhngadjmiaa
