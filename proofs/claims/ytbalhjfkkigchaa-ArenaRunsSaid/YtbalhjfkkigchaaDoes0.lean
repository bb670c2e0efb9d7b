/-
  An act, on both arenas: they answer alike.
-/
import Derived.Test.YtbalhjfkkigchaaDoes
import Derived.Deep.Cut
namespace Go.Proofs.Ytbalhjfkkigchaa
open Go.ChangeShapes Go.WideShapes Go.ChangeAt Go.RowKit
set_option linter.unusedVariables false
set_option linter.unusedSimpArgs false
set_option maxRecDepth 20000

theorem pi_readsN {w wr : World} {F G : Nat → Prop} {p a b N : Nat} {S D : As} {rv : Value} {rs : List Int} {c0 c1 c2 c3 c4 : Value} {K : List (Nat × Array Value × TypeId)} {t : TypeId} (h : PI w F G p a b S D rv rs ((N, #[c0, c1, c2, c3, c4], t) :: K) wr) : wr.cell? ⟨p, 0, none⟩ = some (ptr a) ∧ wr.cell? ⟨p, 1, none⟩ = some (ptr b) ∧ wr.cell? ⟨N, 0, none⟩ = some c0 ∧ wr.cell? ⟨N, 1, none⟩ = some c1 ∧ wr.cell? ⟨N, 2, none⟩ = some c2 ∧ wr.cell? ⟨N, 3, none⟩ = some c3 ∧ wr.cell? ⟨N, 4, none⟩ = some c4 := by
  have hk := (h.keep _ (List.mem_cons_self ..)).1
  refine ⟨h.cells.1, h.cells.2.1, ?_, ?_, ?_, ?_, ?_⟩ <;> (rw [cell_of_row wr N _ _ _ (0, 0) hk]; rfl)

set_option maxHeartbeats 8000000 in
theorem does_0 {w wr : World} {F G : Nat → Prop} {p a b k : Nat} {S D : As} {rv : Value} {rs : List Int} {K0 : List (Nat × Array Value × TypeId)} (hK0 : ∀ x ∈ K0, x.2.2 ≠ 83) (h : PI w F G p a b S D rv rs K0 wr) (hI : Inv k S D) (hk : k ≤ 60) (hrs : rs.length ≤ k) (u t : Nat) (raw ii : Int) (ol nw : Nat) (sx sy : Bool) (sks sws : List Int) (hwf : Ac.wf ⟨(u : Int), (t : Int), raw, ii, (ol : Int), (nw : Int), ⟨sx, sy, sks, sws⟩⟩) (A B : Option Addr) (n c m d : Nat) (hc : u % 9 = 0) (hsk : Sk .i8 (-128) 127 wr A n sks) (hsw : Sk .u8 0 255 wr B m sws) :
    Calls Try.prog 13 #[ptr p, actv ⟨(u : Int), (t : Int), raw, ii, (ol : Int), (nw : Int), ⟨sx, sy, sks, sws⟩⟩ A n c B m d] wr (Did w p a b (k + 1) K0) := by
  obtain ⟨T, L, c0, rfl⟩ := h.row.shape
  have hu : u < 256 := by have := hwf.do_; simp at this; omega
  have hol : ol < 256 := by have := hwf.old; simp at this; omega
  have hnw : nw < 256 := by have := hwf.now; simp at this; omega
  have hii : -128 ≤ ii ∧ ii ≤ 127 := hwf.i
  have HWF := Lib.hid hwf
  have HSK := Lib.hid hsk
  have HSW := Lib.hid hsw
  have HIN := Lib.hid hI
  obtain ⟨o4, ho4⟩ : ∃ o4, ol % 4 = o4 := ⟨_, rfl⟩
  obtain ⟨n4, hn4⟩ : ∃ n4, nw % 4 = n4 := ⟨_, rfl⟩
  have ho4' : (ol : Int) % 4 = (o4 : Int) := by omega
  have hn4' : (nw : Int) % 4 = (n4 : Int) := by omega
  have u9 : (u : Int) % 9 = 0 := by omega
  have ho44 : o4 < 4 := by omega
  have hn44 : n4 < 4 := by omega
  have HH := Lib.hid h
  have HRS := Lib.hid hrs
  clear h hI hrs hwf hc ho4 hn4 hsk hsw
  obtain ⟨bx, hbx⟩ : ∃ bx, wr.heap.size = bx := ⟨_, rfl⟩
  obtain ⟨W0, hW0, hP0⟩ : ∃ W0 : World, wr.alloc (.cells #[.int .u8 (u : Int), .int .u8 (t : Int), .int .i64 raw, .int .i8 ii, .int .u8 (ol : Int), .int .u8 (nw : Int), .bool sx, .bool sy, .slice A n c, .slice B m d] 38) = W0 ∧ PI w F G p a b S D (.slice T L c0) rs ((bx, #[.int .u8 (u : Int), .int .u8 (t : Int), .int .i64 raw, .int .i8 ii, .int .u8 (ol : Int), .int .u8 (nw : Int), .bool sx, .bool sy, .slice A n c, .slice B m d], 38) :: K0) W0 := ⟨_, rfl, by rw [← hbx]; exact HH.out.add _ _ (by decide) (by decide)⟩
  have hbW0 : Below wr.heap.size wr W0 := by rw [← hW0]; exact below_new _ _
  have HP0 := Lib.hid hP0
  obtain ⟨x0, x1, x2, x3, x4, x5, x6, x7, x8, x9⟩ := ten_cells (HP0.out.keep _ (List.mem_cons_self ..)).1
  have hpl : p < W0.heap.size := HP0.out.lt
  clear hP0 HH
  go_enter Try.func13, Try.ntmps13
  go_wp2_with fail
  (try rw [hW0]); (try rw [hbx])
  clear hW0 hbx
  obtain ⟨nd, hnd⟩ : ∃ nd, smallNd sx sy sks sws = nd := ⟨_, rfl⟩
  have HNO : Hid (Calls Try.prog 22 #[smv sx sy A n c B m d] W0 (MadeN W0 nd)) := by show Calls _ _ _ _ _; rw [← hnd]; exact node_walk sx sy A B n c m d sks sws W0 (HSK.out.below hbW0) (HSW.out.below hbW0)
  have HSMALL : Hid nd.small := by show nd.small; rw [← hnd]; exact smallNd_small sx sy sks sws
  clear hnd
  refine HNO.out.mono ?_
  rintro e w1 ⟨pv, kv, zv, rfl, r1, r2, r3, b1⟩
  obtain ⟨P1, P2, P3, rfl⟩ := r1.shape
  obtain ⟨K1, K2, K3, rfl⟩ := r2.shape
  obtain ⟨Z1, Z2, Z3, rfl⟩ := r3.shape
  obtain ⟨N, hN⟩ : ∃ N, w1.heap.size = N := ⟨_, rfl⟩
  obtain ⟨W2, hW2, hbW2, hP2⟩ : ∃ W2 : World, w1.alloc (.cells #[.bool nd.inn, .bool nd.tag, .slice P1 P2 P3, .slice K1 K2 K3, .slice Z1 Z2 Z3] 55) = W2 ∧ Below w1.heap.size w1 W2 ∧ PI w F G p a b S D (.slice T L c0) rs ((N, #[.bool nd.inn, .bool nd.tag, .slice P1 P2 P3, .slice K1 K2 K3, .slice Z1 Z2 Z3], 55) :: (bx, #[.int .u8 (u : Int), .int .u8 (t : Int), .int .i64 raw, .int .i8 ii, .int .u8 (ol : Int), .int .u8 (nw : Int), .bool sx, .bool sy, .slice A n c, .slice B m d], 38) :: K0) W2 := ⟨_, rfl, below_new _ _, by rw [← hN]; exact (HP0.out.next b1).add _ _ (by decide) (by decide)⟩
  have HP2 := Lib.hid hP2
  have HRD : Hid (RdN W0.heap.size W2 (ndv nd.inn nd.tag (.slice P1 P2 P3) (.slice K1 K2 K3) (.slice Z1 Z2 Z3)) nd) := by
    obtain ⟨v, e, hrd, _⟩ := MadeN.rd ⟨_, _, _, rfl, r1, r2, r3, b1⟩
    injection e with e
    rw [e]
    exact hrd.below hbW2
  have HLF := Lib.hid HP0.out.arn.lt
  have HLG := Lib.hid HP0.out.doc.lt
  have HF : Hid (∀ w', Below W2.heap.size W2 w' → (w'.cell? ⟨p, 0, none⟩ = some (ptr a) ∧ w'.cell? ⟨p, 1, none⟩ = some (ptr b) ∧ w'.cell? ⟨N, 0, none⟩ = some (.bool nd.inn) ∧ w'.cell? ⟨N, 1, none⟩ = some (.bool nd.tag) ∧ w'.cell? ⟨N, 2, none⟩ = some (.slice P1 P2 P3) ∧ w'.cell? ⟨N, 3, none⟩ = some (.slice K1 K2 K3) ∧ w'.cell? ⟨N, 4, none⟩ = some (.slice Z1 Z2 Z3))) := fun w' h => pi_readsN (HP2.out.next h)
  obtain ⟨hnx, cc, hcc, hpS, hpD⟩ := HIN.out.next
  have HNX := Lib.hid hnx
  have HPS := Lib.hid hpS
  have HPD := Lib.hid hpD
  have hokS := Lib.hid (HIN.out.okS (by omega))
  have hokD := Lib.hid (HIN.out.okD (by omega))
  have hus := Lib.hid HIN.out.used
  have hmo := Lib.hid HIN.out.rel.most
  clear hP2 r1 r2 r3 b1 HP0 x0 x1 x2 x3 x4 x5 x6 x7 x8 x9 hnx hpS hpD hbW0 hbW2
  go_wp2_with fail
  (try rw [hW2]); (try rw [hN])
  clear hW2 hN
  by_cases hroom : (S.pls.length : Int) - (S.fr.length : Int) < (S.most : Int)
  · have hroomD : ((usedN D.pls : Nat) : Int) < (D.most : Int) := by rw [← hus.out, ← hmo.out]; exact hroom
    have HRO := Lib.hid hroom
    have HROD := Lib.hid hroomD
    obtain ⟨rr, hrr⟩ : ∃ rr, mk (S.next.1 : Int) ((cc + 1 : Nat) : Int) = rr := ⟨_, rfl⟩
    have HRR := Lib.hid hrr
    have hrr0 : (rr != 0) = true := by rw [← hrr]; simpa using mk_pos _ _ (by omega) (by omega)
    have hrrr : (rr == rr) = true := by simp
    clear hroom hroomD hrr
    go_region_held3 (fun w' => w'.cell? ⟨p, 0, none⟩ = some (ptr a) ∧ w'.cell? ⟨p, 1, none⟩ = some (ptr b) ∧ w'.cell? ⟨N, 0, none⟩ = some (.bool nd.inn) ∧ w'.cell? ⟨N, 1, none⟩ = some (.bool nd.tag) ∧ w'.cell? ⟨N, 2, none⟩ = some (.slice P1 P2 P3) ∧ w'.cell? ⟨N, 3, none⟩ = some (.slice K1 K2 K3) ∧ w'.cell? ⟨N, 4, none⟩ = some (.slice Z1 Z2 Z3)) (first | (refine HF.out _ ?_; go_grown; done) | exact HS4.out | go_keep) (first
      | (go_at_call 18; refine (alloc_yes (HP2.out.arn.below (by go_grown)) hokS.out HRO.out cc HPS.out (by omega) (HRD.out.below (by go_grown)) HLF.out HSMALL.out).mono ?_; rintro e w4 ⟨rfl, F4, h4, o4', f4⟩; rw [HRR.out]
         have HRD4 := Lib.hid ((HRD.out.below (by go_grown)).only o4' HLF.out)
         obtain ⟨F5, hP4⟩ := (HP2.out.next (by go_grown)).prog ⟨F4, h4, o4', f4⟩
         have HP4 := Lib.hid hP4
         have HS4 : Hid (w4.cell? ⟨p, 0, none⟩ = some (ptr a) ∧ w4.cell? ⟨p, 1, none⟩ = some (ptr b) ∧ w4.cell? ⟨N, 0, none⟩ = some (.bool nd.inn) ∧ w4.cell? ⟨N, 1, none⟩ = some (.bool nd.tag) ∧ w4.cell? ⟨N, 2, none⟩ = some (.slice P1 P2 P3) ∧ w4.cell? ⟨N, 3, none⟩ = some (.slice K1 K2 K3) ∧ w4.cell? ⟨N, 4, none⟩ = some (.slice Z1 Z2 Z3)) := pi_readsN HP4.out
         clear h4 o4' f4 hP4))
    have HF4 : Hid (∀ w', Below w4.heap.size w4 w' → (w'.cell? ⟨p, 0, none⟩ = some (ptr a) ∧ w'.cell? ⟨p, 1, none⟩ = some (ptr b) ∧ w'.cell? ⟨N, 0, none⟩ = some (.bool nd.inn) ∧ w'.cell? ⟨N, 1, none⟩ = some (.bool nd.tag) ∧ w'.cell? ⟨N, 2, none⟩ = some (.slice P1 P2 P3) ∧ w'.cell? ⟨N, 3, none⟩ = some (.slice K1 K2 K3) ∧ w'.cell? ⟨N, 4, none⟩ = some (.slice Z1 Z2 Z3))) := fun w' h => pi_readsN (HP4.out.next h)
    clear HF HS4
    go_wp2_with fail
    go_region_held3 (fun w' => w'.cell? ⟨p, 0, none⟩ = some (ptr a) ∧ w'.cell? ⟨p, 1, none⟩ = some (ptr b) ∧ w'.cell? ⟨N, 0, none⟩ = some (.bool nd.inn) ∧ w'.cell? ⟨N, 1, none⟩ = some (.bool nd.tag) ∧ w'.cell? ⟨N, 2, none⟩ = some (.slice P1 P2 P3) ∧ w'.cell? ⟨N, 3, none⟩ = some (.slice K1 K2 K3) ∧ w'.cell? ⟨N, 4, none⟩ = some (.slice Z1 Z2 Z3)) (first | (refine HF4.out _ ?_; go_grown; done) | exact HS5.out | go_keep) (first
      | (go_at_call 31; refine (allocD_yes (HP4.out.doc.below (by go_grown)) hokD.out HROD.out cc HPD.out (by omega) (HRD4.out.below (by go_grown)) HLG.out HSMALL.out).mono ?_; rintro e w5 ⟨rfl, h5⟩; rw [← HNX.out, HRR.out]
         obtain ⟨G5, hP5⟩ := (HP4.out.next (by go_grown)).docx h5
         have HP5 := Lib.hid hP5
         have HS5 : Hid (w5.cell? ⟨p, 0, none⟩ = some (ptr a) ∧ w5.cell? ⟨p, 1, none⟩ = some (ptr b) ∧ w5.cell? ⟨N, 0, none⟩ = some (.bool nd.inn) ∧ w5.cell? ⟨N, 1, none⟩ = some (.bool nd.tag) ∧ w5.cell? ⟨N, 2, none⟩ = some (.slice P1 P2 P3) ∧ w5.cell? ⟨N, 3, none⟩ = some (.slice K1 K2 K3) ∧ w5.cell? ⟨N, 4, none⟩ = some (.slice Z1 Z2 Z3)) := pi_readsN HP5.out
         clear h5 hP5))
    have d2 := HP5.out.cells.2.2
    have hpl5 : p < w5.heap.size := HP5.out.lt
    have hp5 : rs.length + [rr].length ≤ 100000 := by have := HRS.out; simp; omega
    have hs5 := HP5.out.below.size
    clear HS5
    go_wp2_with (at_builtin; refine pushNB rowR (base := w.heap.size) rfl (.tmp 46) (.tmp 48) rfl _ rs rfl (HP5.out.next (below_new _ _)).row (some ⟨w5.heap.size, 0, none⟩) 1 1 [rr] rfl (sl_one (by simp)) hp5 (by simp; omega) ?_; intro u6 w6 hr6 hg6 hb6; obtain ⟨V1, V2, V3, rfl⟩ := hr6.shape; obtain ⟨y2, z2, hP6⟩ := (HP5.out.next (below_new _ _)).push hr6 hg6 hb6; have HP6 := Lib.hid hP6; clear hr6 hg6 hb6 hP6)
    go_ret
    exact Did.of HP6.out (HIN.out.alloc nd hcc) (by have := HRS.out; simp; omega)
  · have hroom' : (S.most : Int) ≤ (S.pls.length : Int) - (S.fr.length : Int) := by omega
    have hroomD : (D.most : Int) ≤ ((usedN D.pls : Nat) : Int) := by rw [← hus.out, ← hmo.out]; exact hroom'
    have HRO := Lib.hid hroom'
    have HROD := Lib.hid hroomD
    clear hroom hroom' hroomD
    go_region_held3 (fun w' => w'.cell? ⟨p, 0, none⟩ = some (ptr a) ∧ w'.cell? ⟨p, 1, none⟩ = some (ptr b) ∧ w'.cell? ⟨N, 0, none⟩ = some (.bool nd.inn) ∧ w'.cell? ⟨N, 1, none⟩ = some (.bool nd.tag) ∧ w'.cell? ⟨N, 2, none⟩ = some (.slice P1 P2 P3) ∧ w'.cell? ⟨N, 3, none⟩ = some (.slice K1 K2 K3) ∧ w'.cell? ⟨N, 4, none⟩ = some (.slice Z1 Z2 Z3)) (first | (refine HF.out _ ?_; go_grown; done) | go_keep) (first
      | (go_at_call 18; refine (alloc_not (HP2.out.arn.below (by go_grown)) hokS.out HRO.out (HRD.out.below (by go_grown))).mono ?_; rintro e w4 ⟨rfl, b4⟩
         have p4 : Below W2.heap.size W2 w4 := Below.trans (by go_grown) (b4.mono (by first | (simp; done) | (simp; omega) | omega | go_size))
         have q4 := p4.size
         clear b4))
    have HP4 := Lib.hid (HP2.out.next p4)
    have HRD4 := Lib.hid (HRD.out.below p4)
    have HF4 : Hid (∀ w', Below w4.heap.size w4 w' → (w'.cell? ⟨p, 0, none⟩ = some (ptr a) ∧ w'.cell? ⟨p, 1, none⟩ = some (ptr b) ∧ w'.cell? ⟨N, 0, none⟩ = some (.bool nd.inn) ∧ w'.cell? ⟨N, 1, none⟩ = some (.bool nd.tag) ∧ w'.cell? ⟨N, 2, none⟩ = some (.slice P1 P2 P3) ∧ w'.cell? ⟨N, 3, none⟩ = some (.slice K1 K2 K3) ∧ w'.cell? ⟨N, 4, none⟩ = some (.slice Z1 Z2 Z3))) := fun w' h => pi_readsN (HP4.out.next h)
    clear HF
    go_wp2_with fail
    go_region_held3 (fun w' => w'.cell? ⟨p, 0, none⟩ = some (ptr a) ∧ w'.cell? ⟨p, 1, none⟩ = some (ptr b) ∧ w'.cell? ⟨N, 0, none⟩ = some (.bool nd.inn) ∧ w'.cell? ⟨N, 1, none⟩ = some (.bool nd.tag) ∧ w'.cell? ⟨N, 2, none⟩ = some (.slice P1 P2 P3) ∧ w'.cell? ⟨N, 3, none⟩ = some (.slice K1 K2 K3) ∧ w'.cell? ⟨N, 4, none⟩ = some (.slice Z1 Z2 Z3)) (first | (refine HF4.out _ ?_; go_grown; done) | go_keep) (first
      | (go_at_call 31; refine (allocD_not (HP4.out.doc.below (by go_grown)) hokD.out HROD.out (HRD4.out.below (by go_grown))).mono ?_; rintro e w5 ⟨rfl, b5⟩
         have p5 : Below w4.heap.size w4 w5 := Below.trans (by go_grown) (b5.mono (by first | (simp; done) | (simp; omega) | omega | go_size))
         have q5 := p5.size
         clear b5))
    go_wp2
    go_ret
    exact Did.of (HP4.out.next p5) (HIN.out.more (by omega)) (by have := HRS.out; omega)
end Go.Proofs.Ytbalhjfkkigchaa
