/-
  The law ArenaKeeps.
-/
import Derived.Test.YtbalhjfkkigchaaLawD
namespace Go.Proofs.Ytbalhjfkkigchaa
open Go.ChangeShapes Go.WideShapes Go.ChangeAt Go.RowKit
set_option linter.unusedVariables false
set_option linter.unusedSimpArgs false
set_option maxRecDepth 20000

def oneS (M : Nat) (nd : Nd) : As := ⟨M, [Pa.one 1 nd], [], 0⟩
theorem oneS_ok (M : Nat) (nd : Nd) : Ok (oneS M nd) := ⟨by simp [oneS], fun p hp => by simp [oneS] at hp; subst hp; simp [Pa.one], by simp [oneS], by simp [oneS]⟩
theorem small_len {nd : Nd} (h : nd.small) : nd.ps.length ≤ 100 ∧ nd.ks.length ≤ 100 ∧ nd.zs.length ≤ 100 := h

set_option maxHeartbeats 8000000 in
theorem arenaKeeps_walk (x y : Bool) (A B : Option Addr) (n c m d : Nat) (ks ws : List Int) (w : World) (hk : Sk .i8 (-128) 127 w A n ks) (hw : Sk .u8 0 255 w B m ws) :
    Calls Try.prog 8 #[smv x y A n c B m d] w fun e w' => e = .returned (.bool true) ∧ Below w.heap.size w w' := by
  obtain ⟨nd, hnd⟩ : ∃ nd, smallNd x y ks ws = nd := ⟨_, rfl⟩
  have hsm : nd.small := hnd ▸ smallNd_small x y ks ws
  have HN : Hid (∀ w', Sk .i8 (-128) 127 w' A n ks → Sk .u8 0 255 w' B m ws → Calls Try.prog 22 #[smv x y A n c B m d] w' (MadeN w' nd)) := fun w' h1 h2 => hnd ▸ node_walk x y A B n c m d ks ws w' h1 h2
  have Hk := Lib.hid hk
  have Hw := Lib.hid hw
  clear hnd hk hw
  go_enter Try.func8, Try.ntmps8
  go_wp2_with fail
  refine (awake_walk _).mono ?_
  rintro e w1 ⟨rfl, hb1⟩
  have p0 := below_new w (.cells #[.bool x, .bool y, .slice A n c, .slice B m d] 36)
  have hb : Below w.heap.size w w1 := p0.trans (hb1.mono p0.size)
  obtain ⟨b, hbw⟩ : ∃ b, w.heap.size = b := ⟨_, rfl⟩
  have hbx1 : w1.heap[b]? = some (.cells #[.bool x, .bool y, .slice A n c, .slice B m d] 36 (0, 0)) := (hb1.block b (by simp; omega)).trans (h_new hbw)
  have hs1 : w.heap.size < w1.heap.size := by have := hb1.size; simp at this; omega
  clear hb1 p0
  go_wp2_with fail
  refine (new_walk 2 w1).mono ?_
  rintro e w2 ⟨rfl, h2, b2⟩
  rw [show mostOf 2 = 2 from rfl] at h2
  obtain ⟨a, ha⟩ : ∃ a, w1.heap.size = a := ⟨_, rfl⟩
  rw [ha] at h2 ⊢
  have hbx2 := (b2.block b (by omega)).trans hbx1
  have hb2 := hb.trans (b2.mono hb.size)
  have H2 := Lib.hid h2
  have hs2 : a < w2.heap.size := h2.lt a rfl
  have BX : ∀ (w' : World), w'.heap[b]? = some (.cells #[.bool x, .bool y, .slice A n c, .slice B m d] 36 (0, 0)) → w'.cell? ⟨b, 0, none⟩ = some (.bool x) ∧ w'.cell? ⟨b, 1, none⟩ = some (.bool y) ∧ w'.cell? ⟨b, 2, none⟩ = some (.slice A n c) ∧ w'.cell? ⟨b, 3, none⟩ = some (.slice B m d) := by
    intro w' h
    refine ⟨?_, ?_, ?_, ?_⟩ <;> (rw [cell_of_row w' b _ _ _ (0, 0) h]; rfl)
  have HBX := Lib.hid BX
  obtain ⟨x0, x1, x2, x3⟩ := BX w2 hbx2
  have HBW := Lib.hid hbw
  clear h2 b2 hb hbx1 BX
  (try rw [hbw])
  go_wp2_with fail
  refine (HN.out w2 (Hk.out.keep fun p hp => hb2.cell hp) (Hw.out.keep fun p hp => hb2.cell hp)).mono ?_
  rintro e w3 ⟨pv, kv, zv, rfl, r1, r2, r3, b3⟩
  obtain ⟨A1, N1, C1, rfl⟩ := r1.shape
  obtain ⟨A2, N2, C2, rfl⟩ := r2.shape
  obtain ⟨A3, N3, C3, rfl⟩ := r3.shape
  clear x0 x1 x2 x3
  go_wp2_with fail
  obtain ⟨N, hN⟩ : ∃ N, w3.heap.size = N := ⟨_, rfl⟩
  obtain ⟨W, hW, hbW, h5⟩ : ∃ W : World, w3.alloc (.cells #[.bool nd.inn, .bool nd.tag, .slice A1 N1 C1, .slice A2 N2 C2, .slice A3 N3 C3] 55) = W ∧ Below w3.heap.size w3 W ∧ Five W N nd.inn nd.tag (.slice A1 N1 C1) (.slice A2 N2 C2) (.slice A3 N3 C3) := ⟨_, rfl, below_new _ _, Five.new _ hN _ _ _ _ _⟩
  (try rw [hW]); (try rw [hN])
  have hWs : W.heap.size = N + 1 := by rw [← hW, ← hN]; simp
  clear hW
  have hb23 : Below w2.heap.size w2 W := b3.trans (hbW.mono b3.size)
  have hbW2 := hb2.trans (hb23.mono hb2.size)
  have q1 := r1.next hbW
  have q2 := r2.next hbW
  have q3 := r3.next hbW
  have hs3 := b3.size
  have rd : RdN w2.heap.size W (ndv nd.inn nd.tag (.slice A1 N1 C1) (.slice A2 N2 C2) (.slice A3 N3 C3)) nd := by
    obtain ⟨v, e, hrd, _⟩ := MadeN.rd ⟨_, _, _, rfl, r1, r2, r3, b3⟩
    injection e with e
    rw [e]
    exact hrd.below hbW
  refine (alloc_yes (H2.out.below hb23) ⟨by simp [As.new], by simp [As.new], by simp [As.new], by simp [As.new]⟩ (by simp [As.new]) 0 ⟨Pa.nil, rfl, rfl⟩ (by omega) rd (fun c e => by omega) hsm).mono ?_
  rintro e w4 ⟨rfl, F, h4, o4, f4⟩
  rw [show (As.new 2).next.1 = 0 from rfl, show mk ((0 : Nat) : Int) ((0 + 1 : Nat) : Int) = 1099511627777 from mk11]
  have hold : ∀ c, c < W.heap.size → c ≠ a → w4.heap[c]? = W.heap[c]? := fun c h1 h2 => o4.block c h1 h2
  have hlt : ∀ c, ((Value.slice A1 N1 C1).ownBlock = some c ∨ (Value.slice A2 N2 C2).ownBlock = some c ∨ (Value.slice A3 N3 C3).ownBlock = some c) → w2.heap.size ≤ c ∧ c < N := by
    rintro c (e | e | e)
    · have := World.ownsRow.lt r1 c e; omega
    · have := World.ownsRow.lt r2 c e; omega
    · have := World.ownsRow.lt r3 c e; omega
  have hki : KI w F a N b (oneS 2 nd) #[.bool x, .bool y, .slice A n c, .slice B m d] nd.inn nd.tag (.slice A1 N1 C1) (.slice A2 N2 C2) (.slice A3 N3 C3) nd.ps.length nd.ks.length nd.zs.length w4 := by
    refine ⟨h4, (hold N (by omega) (by omega)).trans h5, (hold b (by omega) (by omega)).trans ((hb23.block b (by omega)).trans hbx2), ⟨_, own_lower (own_at q1 fun c e => hold c (by have := hlt c (.inl e); omega) (by have := hlt c (.inl e); omega)) hb2.size, rfl⟩, ⟨_, own_lower (own_at q2 fun c e => hold c (by have := hlt c (.inr (.inl e)); omega) (by have := hlt c (.inr (.inl e)); omega)) hb2.size, rfl⟩, ⟨_, own_lower (own_at q3 fun c e => hold c (by have := hlt c (.inr (.inr e)); omega) (by have := hlt c (.inr (.inr e)); omega)) hb2.size, rfl⟩, fun c e hF => ?_, fun hF => ?_, fun hF => ?_, fun c hF => ?_, by omega, hbW2.trans (o4.below (fun c e => by omega) hbW2.size)⟩
    · have := hlt c e
      rcases f4 c hF with h | h <;> omega
    · rcases f4 N hF with h | h <;> omega
    · rcases f4 b hF with h | h <;> omega
    · rcases f4 c hF with h | h <;> omega
  have H4 := Lib.hid hki
  obtain ⟨s1, s2, s3⟩ := hsm
  have HSM : Hid nd.small := ⟨s1, s2, s3⟩
  clear rd q1 q2 q3 r1 r2 r3 h4 o4 f4 hold hlt hki h5 hb23 hbW hbW2 H2 hb2 hbx2 b3 hWs hs3 hs2 hN ha hs1 hbw
  generalize hl1 : nd.ps.length = L1 at *
  generalize hl2 : nd.ks.length = L2 at *
  generalize hl3 : nd.zs.length = L3 at *
  have HL1 := Lib.hid hl1
  have HL2 := Lib.hid hl2
  have HL3 := Lib.hid hl3
  clear hl1 hl2 hl3
  go_wp2_with fail
  go_loopw [23] (fun i wr => ∃ (k : Nat) (x' y' : Bool) (pv kv zv : Value), k ≤ 2 ∧ i = .int .i64 (k : Int) ∧ Hid (KI w F a N b (oneS 2 nd) #[.bool x, .bool y, .slice A n c, .slice B m d] x' y' pv kv zv L1 L2 L3 wr)) (fun i _ => 2 - (intOf i).toNat)
  case atStart => exact ⟨0, _, _, _, _, _, by omega, rfl, H4⟩
  case round =>
    clear H4
    obtain ⟨k, x', y', pv, kv, zv, hk2, rfl, H⟩ := hrel
    by_cases hlt : k < 2
    · have i1 : (k : Int) < 2 := by omega
      have hkw : IntKind.i64.wrap ((k : Int) + 1) = (k : Int) + 1 := IntWalk.i64_in _ (by omega)
      obtain ⟨B1, M1, D1, rfl⟩ : ∃ B1 M1 D1, pv = .slice B1 M1 D1 := by obtain ⟨_, h, _⟩ := H.out.ps; exact h.shape
      obtain ⟨B2, M2, D2, rfl⟩ : ∃ B2 M2 D2, kv = .slice B2 M2 D2 := by obtain ⟨_, h, _⟩ := H.out.ks; exact h.shape
      obtain ⟨B3, M3, D3, rfl⟩ : ∃ B3 M3 D3, zv = .slice B3 M3 D3 := by obtain ⟨_, h, _⟩ := H.out.zs; exact h.shape
      obtain rfl : M1 = L1 := by obtain ⟨_, h, e⟩ := H.out.ps; obtain ⟨_, _, e2, _⟩ := h.form; injection e2 with _ e3; omega
      obtain rfl : M2 = L2 := by obtain ⟨_, h, e⟩ := H.out.ks; obtain ⟨_, _, e2, _⟩ := h.form; injection e2 with _ e3; omega
      obtain rfl : M3 = L3 := by obtain ⟨_, h, e⟩ := H.out.zs; obtain ⟨_, _, e2, _⟩ := h.form; injection e2 with _ e3; omega
      obtain ⟨e0, e1, e2, e3, e4⟩ := H.out.five.cells
      go_wp2_with fail
      go_loopw [28] (fun i wr => ∃ (k : Nat), k ≤ M1 ∧ i = .int .i64 (k : Int) ∧ Hid (KI w F a N b (oneS 2 nd) #[.bool x, .bool y, .slice A n c, .slice B m d] x' y' (.slice B1 M1 D1) (.slice B2 M2 D2) (.slice B3 M3 D3) M1 M2 M3 wr)) (fun i _ => M1 - (intOf i).toNat)
      case atStart => exact ⟨0, by omega, rfl, H⟩
      case round =>
        clear H e0 e1 e2 e3 e4
        obtain ⟨j, hj, rfl, H⟩ := hrel
        obtain ⟨e0, e1, e2, e3, e4⟩ := H.out.five.cells
        by_cases hjl : j < M1
        · obtain ⟨g, cc, hv, hgl, ⟨u, hcu⟩, hfz, hK⟩ := H.out.setP hjl (-77)
          injection hv with hv _ hv2
          subst hv hv2
          have HK := Lib.hid hK
          clear hK H
          have j0 : (0 : Int) ≤ (j : Int) := by omega
          have j1 : (j : Int) < (M1 : Int) := by omega
          have hjw : IntKind.i64.wrap ((j : Int) + 1) = (j : Int) + 1 := IntWalk.i64_in _ (by omega)
          go_wp2
          go_roundw
          case rel => exact ⟨j + 1, by omega, by go_num, HK⟩
          case measure => simp [intOf]; omega
        · have j1 : ¬ ((j : Int) < (M1 : Int)) := by omega
          go_wp2_with fail
          go_loopw [41] (fun i wr => ∃ (k : Nat), k ≤ M2 ∧ i = .int .i64 (k : Int) ∧ Hid (KI w F a N b (oneS 2 nd) #[.bool x, .bool y, .slice A n c, .slice B m d] x' y' (.slice B1 M1 D1) (.slice B2 M2 D2) (.slice B3 M3 D3) M1 M2 M3 wr)) (fun i _ => M2 - (intOf i).toNat)
          case atStart => exact ⟨0, by omega, rfl, H⟩
          case round =>
            clear H e0 e1 e2 e3 e4 j1 hjl hj
            obtain ⟨j, hj, rfl, H⟩ := hrel
            obtain ⟨e0, e1, e2, e3, e4⟩ := H.out.five.cells
            by_cases hjl : j < M2
            · obtain ⟨g, cc, hv, hgl, ⟨u, hcu⟩, hfz, hK⟩ := H.out.setK hjl (-77)
              injection hv with hv _ hv2
              subst hv hv2
              have HK := Lib.hid hK
              clear hK H
              have j0 : (0 : Int) ≤ (j : Int) := by omega
              have j1 : (j : Int) < (M2 : Int) := by omega
              have hjw : IntKind.i64.wrap ((j : Int) + 1) = (j : Int) + 1 := IntWalk.i64_in _ (by omega)
              go_wp2
              go_roundw
              case rel => exact ⟨j + 1, by omega, by go_num, HK⟩
              case measure => simp [intOf]; omega
            · have j1 : ¬ ((j : Int) < (M2 : Int)) := by omega
              go_wp2_with fail
              go_loopw [54] (fun i wr => ∃ (k : Nat), k ≤ M3 ∧ i = .int .i64 (k : Int) ∧ Hid (KI w F a N b (oneS 2 nd) #[.bool x, .bool y, .slice A n c, .slice B m d] x' y' (.slice B1 M1 D1) (.slice B2 M2 D2) (.slice B3 M3 D3) M1 M2 M3 wr)) (fun i _ => M3 - (intOf i).toNat)
              case atStart => exact ⟨0, by omega, rfl, H⟩
              case round =>
                clear H e0 e1 e2 e3 e4 j1 hjl hj
                obtain ⟨j, hj, rfl, H⟩ := hrel
                obtain ⟨e0, e1, e2, e3, e4⟩ := H.out.five.cells
                by_cases hjl : j < M3
                · obtain ⟨g, cc, hv, hgl, ⟨u, hcu⟩, hfz, hK⟩ := H.out.setZ hjl (-77)
                  injection hv with hv _ hv2
                  subst hv hv2
                  have HK := Lib.hid hK
                  clear hK H
                  have j0 : (0 : Int) ≤ (j : Int) := by omega
                  have j1 : (j : Int) < (M3 : Int) := by omega
                  have hjw : IntKind.i64.wrap ((j : Int) + 1) = (j : Int) + 1 := IntWalk.i64_in _ (by omega)
                  go_wp2
                  go_roundw
                  case rel => exact ⟨j + 1, by omega, by go_num, HK⟩
                  case measure => simp [intOf]; omega
                · have j1 : ¬ ((j : Int) < (M3 : Int)) := by omega
                  go_wp2_with fail
                  refine (look_yes H.out.arn (oneS_ok 2 nd) (i := 0) (p := Pa.one 1 nd) rfl rfl mk11).mono ?_
                  rintro e wl ⟨pv', kv', zv', rfl, r1, r2, r3, bl⟩
                  obtain ⟨P1, U1, V1, rfl⟩ := r1.shape
                  obtain ⟨P2, U2, V2, rfl⟩ := r2.shape
                  obtain ⟨P3, U3, V3, rfl⟩ := r3.shape
                  rw [show (Pa.one 1 nd).nd = nd from rfl] at r1 r2 r3 ⊢
                  obtain ⟨hK, hrd⟩ := H.out.store (x' := nd.inn) (y' := nd.tag) (nd := nd) r1 r2 r3 bl
                  rw [HL1.out, HL2.out, HL3.out] at hK
                  have f5 := H.out.five.below bl
                  obtain ⟨y0, y1, y2, y3, y4⟩ := f5.cells
                  have z0 := f5.free 0
                  have z1 := f5.free 1
                  have z2 := f5.free 2
                  have z3 := f5.free 3
                  have z4 := f5.free 4
                  have HK := Lib.hid hK
                  have HRV := Lib.hid hrd
                  clear hK hrd H f5 e0 e1 e2 e3 e4 r1 r2 r3 bl
                  go_wp2_with fail
                  generalize hV : (((((wl.setCell ⟨N, 0, none⟩ (.bool nd.inn)).setCell ⟨N, 1, none⟩ (.bool nd.tag)).setCell ⟨N, 2, none⟩ (.slice P1 U1 V1)).setCell ⟨N, 3, none⟩ (.slice P2 U2 V2)).setCell ⟨N, 4, none⟩ (.slice P3 U3 V3)) = V at *
                  clear hV y0 y1 y2 y3 y4 z0 z1 z2 z3 z4
                  obtain ⟨e0, e1, e2, e3, e4⟩ := HK.out.five.cells
                  obtain ⟨c0, c1, c2, c3⟩ := HK.out.boxc
                  have SK1 := Lib.hid (Hk.out.keep fun p hp => HK.out.below.cell hp)
                  have SK2 := Lib.hid (Hw.out.keep fun p hp => HK.out.below.cell hp)
                  have HF : Hid (∀ w', Below V.heap.size V w' → (w'.cell? ⟨N, 0, none⟩ = some (.bool nd.inn) ∧ w'.cell? ⟨N, 1, none⟩ = some (.bool nd.tag) ∧ w'.cell? ⟨N, 2, none⟩ = some (.slice P1 U1 V1) ∧ w'.cell? ⟨N, 3, none⟩ = some (.slice P2 U2 V2) ∧ w'.cell? ⟨N, 4, none⟩ = some (.slice P3 U3 V3) ∧ w'.cell? ⟨b, 0, none⟩ = some (.bool x) ∧ w'.cell? ⟨b, 1, none⟩ = some (.bool y) ∧ w'.cell? ⟨b, 2, none⟩ = some (.slice A n c) ∧ w'.cell? ⟨b, 3, none⟩ = some (.slice B m d))) :=
                    fun w' h => ⟨below_read h e0, below_read h e1, below_read h e2, below_read h e3, below_read h e4, below_read h c0, below_read h c1, below_read h c2, below_read h c3⟩
                  go_region_held3 (fun w' => w'.cell? ⟨N, 0, none⟩ = some (.bool nd.inn) ∧ w'.cell? ⟨N, 1, none⟩ = some (.bool nd.tag) ∧ w'.cell? ⟨N, 2, none⟩ = some (.slice P1 U1 V1) ∧ w'.cell? ⟨N, 3, none⟩ = some (.slice P2 U2 V2) ∧ w'.cell? ⟨N, 4, none⟩ = some (.slice P3 U3 V3) ∧ w'.cell? ⟨b, 0, none⟩ = some (.bool x) ∧ w'.cell? ⟨b, 1, none⟩ = some (.bool y) ∧ w'.cell? ⟨b, 2, none⟩ = some (.slice A n c) ∧ w'.cell? ⟨b, 3, none⟩ = some (.slice B m d)) (first | (refine HF.out _ ?_; go_grown; done) | go_keep) (first
                    | (go_at_call 22; refine (HN.out _ (SK1.out.below (by go_grown)) (SK2.out.below (by go_grown))).mono ?_; intro e wn hn; obtain ⟨vn, rfl, rdn, bn⟩ := hn.rd
                       have p1 : Below V.heap.size V wn := Below.trans (by go_grown) (bn.mono (by first | (simp; done) | (simp; omega) | omega | go_size))
                       have q1 := p1.size
                       have HRD := Lib.hid rdn
                       clear hn bn rdn)
                    | (go_at_call 23; refine (sameNode_walk ((HRV.out.below p1).below (by go_grown)) (HRD.out.below (by go_grown)) HSM.out).mono ?_; rintro e wz ⟨rfl, bz⟩
                       have p2 : Below V.heap.size V wz := Below.trans p1 (Below.trans (by go_grown) (bz.mono (by first | (simp; done) | (simp; omega) | omega | go_size)))
                       have q2 := p2.size
                       clear bz))
                  all_goals go_wp2
                  all_goals go_roundw
                  case rel => exact ⟨k + 1, _, _, _, _, _, by omega, by go_num, HK.out.next p2⟩
                  case measure => simp [intOf]; omega
    · have i1 : ¬ ((k : Int) < 2) := by omega
      obtain ⟨c0, c1, c2, c3⟩ := H.out.boxc
      go_wp2_with fail
      refine (HN.out wr (Hk.out.keep fun p hp => H.out.below.cell hp) (Hw.out.keep fun p hp => H.out.below.cell hp)).mono ?_
      rintro e wl ⟨pv', kv', zv', rfl, r1, r2, r3, bl⟩
      obtain ⟨A4, C4, rfl, sl⟩ := r3.form
      rw [HL3.out] at sl ⊢
      have HH := Lib.hid (H.out.next bl)
      have fd1 := field_ways nd.inn nd.tag pv' kv' (.slice A4 L3 C4)
      have fd2 := field_ways2 kv' (.slice A4 L3 C4)
      have HSL := Lib.hid sl
      clear H sl r1 r2 r3 bl c0 c1 c2 c3
      go_wp2_with fail
      go_loopw [77] (fun i wr => ∃ (k : Nat), k ≤ L3 ∧ i = .int .i64 (k : Int) ∧ Hid (KI w F a N b (oneS 2 nd) #[.bool x, .bool y, .slice A n c, .slice B m d] x' y' pv kv zv L1 L2 L3 wr) ∧ Hid (Sl wr A4 L3 C4 nd.zs)) (fun i _ => L3 - (intOf i).toNat)
      case atStart => exact ⟨0, by omega, rfl, HH, HSL⟩
      case round =>
        clear HH HSL
        obtain ⟨j, hj, rfl, HH, HSL⟩ := hrel
        by_cases hjl : j < L3
        · obtain ⟨g, off, rfl, hgl, hc⟩ := HSL.out.at0 hjl
          have j0 : (0 : Int) ≤ (j : Int) := by omega
          have j1 : (j : Int) < (L3 : Int) := by omega
          have hjw : IntKind.i64.wrap ((j : Int) + 1) = (j : Int) + 1 := IntWalk.i64_in _ (by omega)
          have HWA : Hid (wayAt (Pa.one 1 nd) (j : Int) = nd.zs.getD j 0) := by
            show _ = _
            have hh : hasB (Pa.one 1 nd).ws.length (j : Int) = true := by simp [hasB, Pa.one]; have := HL3.out; omega
            rw [wayAt, hh]
            simp [Pa.one]
          obtain ⟨z, hzd⟩ : ∃ z, nd.zs.getD j 0 = z := ⟨_, rfl⟩
          rw [hzd] at hc HWA
          clear hzd
          have hzz : (z != z) = false := by simp
          go_wp2_with fail
          refine (way_yes HH.out.arn (oneS_ok 2 nd) (i := 0) (p := Pa.one 1 nd) rfl rfl mk11 (j : Int)).mono ?_
          rintro e w9 ⟨rfl, rfl⟩
          rw [HWA.out]
          go_wp2
          go_roundw
          case rel => exact ⟨j + 1, by omega, by go_num, HH, HSL⟩
          case measure => simp [intOf]; omega
        · have j1 : ¬ ((j : Int) < (L3 : Int)) := by omega
          go_wp2
          go_ret
          exact ⟨rfl, HH.out.below⟩
end Go.Proofs.Ytbalhjfkkigchaa
