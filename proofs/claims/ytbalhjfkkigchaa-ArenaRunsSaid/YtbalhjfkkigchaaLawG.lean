/-
  The law ArenaFaults.
-/
import Derived.Test.YtbalhjfkkigchaaLawF
namespace Go.Proofs.Ytbalhjfkkigchaa
open Go.ChangeShapes Go.WideShapes Go.ChangeAt Go.RowKit
set_option linter.unusedVariables false
set_option linter.unusedSimpArgs false
set_option maxRecDepth 20000

set_option maxHeartbeats 8000000 in
theorem arenaFaults_walk (A : Option Addr) (n c : Nat) (l : List Sm) (r i o x : Int) (w : World) (hl : Sts SmC 4 w A n l) :
    Calls Try.prog 6 #[.slice A n c, .int .i64 r, .int .i64 i, .int .i64 o, .int .i64 x] w fun e w' => e = .returned (.bool true) ∧ Below w.heap.size w w' := by
  have hlen := Lib.hid hl.1
  have hmax := hl.2.1
  unfold maxLen at hmax
  have HL := Lib.hid hl
  clear hl
  by_cases hn : n ≤ 10
  case neg =>
    have h10 : (10 : Int) < (n : Int) := by omega
    go_enter Try.func6, Try.ntmps6
    go_wp2_with fail
    refine (awake_walk _).mono ?_
    rintro e w1 ⟨rfl, hb1⟩
    go_wp2
    go_ret
    exact ⟨rfl, hb1⟩
  have h10 : ¬ ((10 : Int) < (n : Int)) := by omega
  go_enter Try.func6, Try.ntmps6
  go_wp2_with fail
  refine (awake_walk _).mono ?_
  rintro e w1 ⟨rfl, hb1⟩
  go_wp2_with fail
  refine (new_walk 20 w1).mono ?_
  rintro e w2 ⟨rfl, h2, b2⟩
  rw [show mostOf 20 = 20 from rfl] at h2
  have H2 : Hid (TI w (fun b => b = w1.heap.size) w1.heap.size (putS 20 (l.take 0) 0) (.slice none 0 0) (told 0) w2) := by
    refine ⟨by simpa [putS, As.new] using h2, Row.nil _ _ _, (fun c e => by cases e), (fun c e => by have := hb1.size; omega), hb1.trans (b2.mono hb1.size)⟩
  clear h2 b2 hb1
  generalize w1.heap.size = a at *
  go_wp2_with fail
  go_loopw [12, 30] (fun tv i wr => ∃ (k : Nat) (F : Nat → Prop), k ≤ n ∧ i = .int .i64 (k : Int) ∧ Hid (TI w F a (putS 20 (l.take k) 0) tv (told k) wr)) (fun _ i _ => n - (intOf i).toNat)
  case atStart => exact ⟨0, _, by omega, rfl, H2⟩
  case round =>
    clear H2
    obtain ⟨k, F, hk, rfl, H⟩ := hrel
    obtain ⟨T1, T2, T3, rfl⟩ := H.out.tol.shape
    by_cases hlt : k < n
    · obtain ⟨g, off, s, A1, n1, c1, B1, m1, d1, rfl, hgl, hs, t0, t1, t2, t3, sk1, sk2⟩ := HL.out.at_ H.out.below hlt
      have i0 : (0 : Int) ≤ (k : Int) := by omega
      have i1 : (k : Int) < (n : Int) := by omega
      have hkw : IntKind.i64.wrap ((k : Int) + 1) = (k : Int) + 1 := IntWalk.i64_in _ (by omega)
      have hlk : (l.take k).length = k := by rw [List.length_take]; have := hlen.out; omega
      have hts : l.take (k + 1) = l.take k ++ [s] := by
        have hkl : k < l.length := (List.getElem?_eq_some_iff.1 hs).1
        rw [take_snoc l k hkl, (List.getElem?_eq_some_iff.1 hs).2]
      have HTS := Lib.hid hts
      have HLK := Lib.hid hlk
      have HS1 := Lib.hid sk1
      have HS2 := Lib.hid sk2
      clear hts hlk sk1 sk2
      go_wp2_with fail
      obtain ⟨W, hW, hbW⟩ : ∃ W : World, wr.alloc (.cells #[.bool s.x, .bool s.y, .slice A1 n1 c1, .slice B1 m1 d1] 36) = W ∧ Below wr.heap.size wr W := ⟨_, rfl, below_new _ _⟩
      (try rw [hW])
      clear hW
      have HW := Lib.hid (H.out.next hbW)
      refine (node_walk s.x s.y A1 B1 n1 c1 m1 d1 s.ks s.ws W (HS1.out.keep fun p hp => HW.out.below.cell hp) (HS2.out.keep fun p hp => HW.out.below.cell hp)).mono ?_
      intro e w3 h3
      obtain ⟨v, rfl, rd, b3⟩ := h3.rd
      have H3 := Lib.hid (HW.out.next b3)
      have hFl : ∀ b, F b → b < W.heap.size := HW.out.arn.lt
      clear h3 t0 t1 t2 t3
      go_wp2_with fail
      obtain ⟨hnx, hpa⟩ := putS_next 20 (l.take k) 0
      refine (alloc_yes H3.out.arn (putS_ok _ _ _ (by have := HLK.out; omega) (by omega)) (by simp [putS]; have := HLK.out; omega) 0 hpa (by omega) rd hFl (smallNd_small _ _ _ _)).mono ?_
      rintro e w4 ⟨rfl, h4⟩
      rw [hnx, HLK.out]
      obtain ⟨F4, h4⟩ := H3.out.nx h4
      have h4' : TI w F4 a (putS 20 (l.take (k + 1)) 0) (.slice T1 T2 T3) (told k) w4 := by rw [HTS.out, ← putS_alloc]; exact h4
      have H4 := Lib.hid h4'
      have hp4 : (told k).length + [mk (k : Int) ((0 + 1 : Nat) : Int)].length ≤ 100000 := by rw [told_len]; simp; omega
      clear h4 h4' rd b3 hnx hpa hFl
      have hs4 := H4.out.below.size
      obtain ⟨rr, hrr⟩ : ∃ rr, mk (k : Int) ((0 + 1 : Nat) : Int) = rr := ⟨_, rfl⟩
      have HRR := Lib.hid hrr
      rw [hrr] at hp4 ⊢
      clear hrr
      go_wp2_with (at_builtin; refine pushNB rowR (base := w.heap.size) rfl (.tmp 41) (.tmp 43) rfl _ (told k) rfl (H4.out.next (below_new _ _)).tol (some ⟨w4.heap.size, 0, none⟩) 1 1 [rr] rfl (sl_one (by simp)) hp4 (by simp; omega) ?_; intro u5 w5 hr5 hg5 hb5; have H5 := Lib.hid ((H4.out.next (below_new _ _)).push hr5 hg5 hb5); clear hr5 hg5 hb5)
      go_roundw
      case rel => exact ⟨k + 1, F4, by omega, by go_num, by rw [told_succ, show mk (k : Int) 1 = rr from HRR.out]; exact H5.out⟩
      case measure => simp [intOf]; omega
    · have i1 : ¬ ((k : Int) < (n : Int)) := by omega
      obtain rfl : k = n := by omega
      have hall : l.take k = l := List.take_of_length_le (by have := hlen.out; omega)
      rw [hall] at H
      obtain rfl : T2 = k := by obtain ⟨_, _, e, _⟩ := H.out.tol.form; injection e with _ e2; rw [e2, told_len]
      clear hall hlt
      have HSL : Hid (Sl wr T1 T2 T3 (told T2)) := H.out.tol.sl
      go_wp2_with fail
      go_loopw [49] (fun i wr' => ∃ (k : Nat), k ≤ T2 ∧ i = .int .i64 (k : Int) ∧ Hid (TI w F a (putS 20 l 0) (.slice T1 T2 T3) (told T2) wr') ∧ Hid (∀ j, j < k → mk (j : Int) 1 ≠ r)) (fun i _ => T2 - (intOf i).toNat)
      case atStart => exact ⟨0, by omega, rfl, H, fun j hj => by omega⟩
      case round =>
        clear H HSL
        obtain ⟨k, hk, rfl, H, HNE⟩ := hrel
        by_cases hlt : k < T2
        · obtain ⟨g, off, rfl, hgl, hc⟩ := H.out.tol.sl.at0 hlt
          rw [told_at hlt] at hc
          obtain ⟨rr, hrr⟩ : ∃ rr, mk (k : Int) 1 = rr := ⟨_, rfl⟩
          have HRR := Lib.hid hrr
          rw [hrr] at hc
          clear hrr
          have i0 : (0 : Int) ≤ (k : Int) := by omega
          have i1 : (k : Int) < (T2 : Int) := by omega
          have hkw : IntKind.i64.wrap ((k : Int) + 1) = (k : Int) + 1 := IntWalk.i64_in _ (by omega)
          by_cases he : rr = r
          · have he2 : (rr == r) = true := by simpa using he
            go_wp2
            go_ret
            exact ⟨rfl, H.out.below⟩
          · have he2 : (rr == r) = false := by simpa using he
            go_wp2
            go_roundw
            case rel =>
              refine ⟨k + 1, by omega, by go_num, H, ?_⟩
              intro j hj
              by_cases hjk : j < k
              · exact HNE.out j hjk
              · obtain rfl : j = k := by omega
                rw [HRR.out]; exact he
            case measure => simp [intOf]; omega
        · have i1 : ¬ ((k : Int) < (T2 : Int)) := by omega
          have hno : ∀ f i, ¬ Hit (putS 20 l f) r i := fun f => putS_hit fun j hj => HNE.out j (by have := hlen.out; omega)
          have HNO := Lib.hid hno
          have HOK : Hid (∀ f, f ≤ 8 → Ok (putS 20 l f)) := fun f hf => putS_ok _ _ _ (by have := hlen.out; omega) (by omega)
          clear hno HNE
          go_wp2_with fail
          refine (free_no H.out.arn (HOK.out 0 (by omega)) (HNO.out 0)).mono ?_
          rintro e v1 ⟨rfl, h1, o1⟩
          have H1 := Lib.hid (H.out.only h1 o1)
          clear h1 o1 H
          go_wp2_with fail
          refine (look_no H1.out.arn (HOK.out 1 (by omega)) (HNO.out 1)).mono ?_
          rintro e v2 ⟨rfl, h1, o1⟩
          have H2 := Lib.hid (H1.out.only h1 o1)
          clear h1 o1 H1
          go_wp2_with fail
          refine (sameNode_walk (RdN.nil 0 v2 false false) (RdN.nil 0 v2 false false) (small_nil _ _)).mono ?_
          rintro e v3 ⟨rfl, b3⟩
          have H3 := Lib.hid (H2.out.next b3)
          clear b3 H2
          go_wp2_with fail
          refine (way_no H3.out.arn (HOK.out 2 (by omega)) (HNO.out 2) i).mono ?_
          rintro e v4 ⟨rfl, h1, o1⟩
          have H4 := Lib.hid (H3.out.only h1 o1)
          clear h1 o1 H3
          go_wp2_with fail
          refine (swapWay_no H4.out.arn (HOK.out 3 (by omega)) (HNO.out 3) i o x).mono ?_
          rintro e v5 ⟨rfl, h1, o1⟩
          have H5 := Lib.hid (H4.out.only h1 o1)
          clear h1 o1 H4
          go_wp2_with fail
          refine (info_no H5.out.arn (HOK.out 4 (by omega)) (HNO.out 4)).mono ?_
          rintro e v6 ⟨rfl, h1, o1⟩
          have H6 := Lib.hid (H5.out.only h1 o1)
          clear h1 o1 H5
          go_wp2_with fail
          refine (swapInfo_no H6.out.arn (HOK.out 5 (by omega)) (HNO.out 5) o x).mono ?_
          rintro e v7 ⟨rfl, h1, o1⟩
          have H7 := Lib.hid (H6.out.only h1 o1)
          clear h1 o1 H6
          go_wp2_with fail
          refine (mark_no H7.out.arn (HOK.out 6 (by omega)) (HNO.out 6)).mono ?_
          rintro e v8 ⟨rfl, h1, o1⟩
          have H8 := Lib.hid (H7.out.only h1 o1)
          clear h1 o1 H7
          go_wp2_with fail
          refine (setMark_no H8.out.arn (HOK.out 7 (by omega)) (HNO.out 7)).mono ?_
          rintro e v9 ⟨rfl, h1, o1⟩
          have H9 : Hid (TI w F a (putS 20 l 8) (.slice T1 T2 T3) (told T2) v9) := H8.out.only h1 o1
          clear h1 o1 H8
          go_wp2_with fail
          go_loopw [106] (fun i wr' => ∃ (k : Nat), k ≤ T2 ∧ i = .int .i64 (k : Int) ∧ Hid (TI w F a (putS 20 l 8) (.slice T1 T2 T3) (told T2) wr')) (fun i _ => T2 - (intOf i).toNat)
          case atStart => exact ⟨0, by omega, rfl, H9⟩
          case round =>
            clear H9 hk i1 hlt
            obtain ⟨k, hk, rfl, H⟩ := hrel
            by_cases hlt : k < T2
            · obtain ⟨gt, offt, rfl, hgtl, hct⟩ := H.out.tol.sl.at0 hlt
              rw [told_at hlt] at hct
              obtain ⟨rr, hrr⟩ : ∃ rr, mk (k : Int) 1 = rr := ⟨_, rfl⟩
              have HRR := Lib.hid hrr
              rw [hrr] at hct
              clear hrr
              obtain ⟨g, off, s, A1, n1, c1, B1, m1, d1, rfl, hgl, hs, t0, t1, t2, t3, sk1, sk2⟩ := HL.out.at_ H.out.below hlt
              have i0 : (0 : Int) ≤ (k : Int) := by omega
              have i1 : (k : Int) < (T2 : Int) := by omega
              have hkw : IntKind.i64.wrap ((k : Int) + 1) = (k : Int) + 1 := IntWalk.i64_in _ (by omega)
              have HS1 : Hid (Sk .i8 (-128) 127 wr A1 n1 s.ks) := sk1.keep fun p hp => H.out.below.cell hp
              have HS2 : Hid (Sk .u8 0 255 wr B1 m1 s.ws) := sk2.keep fun p hp => H.out.below.cell hp
              have HP : Hid ((putS 20 l 8).pls[k]? = some (Pa.one 1 s.nd)) := putS_at hs
              have HAN := Lib.hid H.out.arn
              clear sk1 sk2 hs
              have hzz : ((0 : Int) != 0) = false := by decide
              have HF : Hid (∀ w', Below wr.heap.size wr w' → (w'.cell? ⟨g, off + k * 4, none⟩ = some (.bool s.x) ∧ w'.cell? ⟨g, off + k * 4 + 1, none⟩ = some (.bool s.y) ∧ w'.cell? ⟨g, off + k * 4 + 2, none⟩ = some (.slice A1 n1 c1) ∧ w'.cell? ⟨g, off + k * 4 + 3, none⟩ = some (.slice B1 m1 d1))) :=
                fun w' h => ⟨below_read h t0, below_read h t1, below_read h t2, below_read h t3⟩
              go_wp2_with fail
              go_region_held3 (fun w' => w'.cell? ⟨g, off + k * 4, none⟩ = some (.bool s.x) ∧ w'.cell? ⟨g, off + k * 4 + 1, none⟩ = some (.bool s.y) ∧ w'.cell? ⟨g, off + k * 4 + 2, none⟩ = some (.slice A1 n1 c1) ∧ w'.cell? ⟨g, off + k * 4 + 3, none⟩ = some (.slice B1 m1 d1)) (first | (refine HF.out _ ?_; go_grown; done) | go_keep) (first
                | (go_at_call 29; refine (mark_yes (HAN.out.below (by go_grown)) (HOK.out 8 (by omega)) HP.out rfl HRR.out).mono ?_; rintro e z1 ⟨rfl, rfl⟩; rw [show (Pa.one 1 s.nd).mark = false from rfl])
                | (go_at_call 27; refine (info_yes (HAN.out.below (by go_grown)) (HOK.out 8 (by omega)) HP.out rfl HRR.out).mono ?_; rintro e z2 ⟨rfl, rfl⟩; rw [show (Pa.one 1 s.nd).info = 0 from rfl])
                | (go_at_call 24; refine (look_yes (HAN.out.below (by go_grown)) (HOK.out 8 (by omega)) HP.out rfl HRR.out).mono ?_; intro e z3 h3; obtain ⟨v3, rfl, rd3, b3⟩ := h3.rd
                   have p1 : Below wr.heap.size wr z3 := Below.trans (by go_grown) (b3.mono (by first | (simp; done) | (simp; omega) | omega | go_size))
                   have q1 := p1.size
                   have HRD := Lib.hid rd3
                   clear h3 b3 rd3)
                | (go_at_call 22; refine (node_walk s.x s.y A1 B1 n1 c1 m1 d1 s.ks s.ws _ ((HS1.out.below p1).below (by go_grown)) ((HS2.out.below p1).below (by go_grown))).mono ?_; intro e z4 h4; obtain ⟨v4, rfl, rd4, b4⟩ := h4.rd
                   have b34 : Below z3.heap.size z3 z4 := Below.trans (by go_grown) (b4.mono (by first | (simp; done) | (simp; omega) | omega | go_size))
                   have p2 : Below wr.heap.size wr z4 := p1.trans (b34.mono p1.size)
                   have q2 := p2.size
                   have HRD4 := Lib.hid rd4
                   have HRD3 := Lib.hid (HRD.out.below b34)
                   clear h4 b4 rd4 b34)
                | (go_at_call 23; refine (sameNode_walk (HRD3.out.below (by go_grown)) (HRD4.out.below (by go_grown)) (smallNd_small _ _ _ _)).mono ?_; rintro e z5 ⟨rfl, b5⟩
                   have p3 : Below wr.heap.size wr z5 := Below.trans p2 (Below.trans (by go_grown) (b5.mono (by first | (simp; done) | (simp; omega) | omega | go_size)))
                   have q3 := p3.size
                   clear b5))
              all_goals go_wp2
              all_goals go_roundw
              case rel => exact ⟨k + 1, by omega, by go_num, H.out.next p3⟩
              case measure => simp [intOf]; omega
            · have i1 : ¬ ((k : Int) < (T2 : Int)) := by omega
              obtain ⟨l', P, Q, hAr⟩ := H.out.arn
              have HAr := Lib.hid hAr
              clear hAr
              go_wp2_with fail
              refine (faults_walk HAr.out).mono ?_
              rintro e w9 ⟨rfl, rfl⟩
              rw [show ((putS 20 l 8).flt : Int) = 8 from rfl]
              go_wp2_with fail
              have hll := hlen.out
              refine (used_walk HAr.out (by simp [putS]; omega) (by simp [putS])).mono ?_
              rintro e w9 ⟨rfl, b9⟩
              rw [show (((putS 20 l 8).pls.length : Nat) : Int) - (((putS 20 l 8).fr.length : Nat) : Int) = (T2 : Int) from by simp [putS]; omega]
              have hTT : ((T2 : Int) == (T2 : Int)) = true := by simp
              clear hll
              go_wp2
              go_ret
              exact ⟨rfl, H.out.below.trans (b9.mono H.out.below.size)⟩
end Go.Proofs.Ytbalhjfkkigchaa
