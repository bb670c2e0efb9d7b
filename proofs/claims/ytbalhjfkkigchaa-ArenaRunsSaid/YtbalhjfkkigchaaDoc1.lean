/-
  What the document's arena's New, Used and At return.
-/
import Derived.Test.YtbalhjfkkigchaaLawH
namespace Go.Proofs.Ytbalhjfkkigchaa
open Go.ChangeShapes Go.WideShapes Go.ChangeAt Go.RowKit
set_option linter.unusedVariables false
set_option linter.unusedSimpArgs false
set_option maxRecDepth 20000

theorem ar_newD (w : World) (m : Nat) (k : Int) (hk : k = (m : Int)) : Ar true (fun b => b = w.heap.size) (w.alloc (.cells #[.slice none 0 0, .slice none 0 0, .int .i64 k, .int .i64 0] 44)) w.heap.size (As.new m) [] (.slice none 0 0) (.slice none 0 0) := by
  subst hk; exact ar_new (d := true) w m _ rfl
set_option maxHeartbeats 400000 in
theorem newD_walk (m : Int) (w : World) :
    Calls Try.prog 12 #[.int .i64 m] w fun e w' => e = .returned (ptr w.heap.size) ∧ Arn true (fun b => b = w.heap.size) w' w.heap.size (As.new (mostOf m)) ∧ Below w.heap.size w w' := by
  go_enter Try.func12, Try.ntmps12
  go_wp2
  all_goals go_ret
  all_goals exact ⟨rfl, ⟨_, _, _, ar_newD w _ _ (by unfold mostOf; omega)⟩, below_new _ _⟩

theorem Ar.cells1 {F : Nat → Prop} {w : World} {a : Nat} {S : As} {l : List (Pa × Vs)} {P Q : Value} (h : Ar true F w a S l P Q) {i : Nat} {x : Pa × Vs} (hi : l[i]? = some x) : ∃ g c, P = .slice (some ⟨g, 0, none⟩) l.length c ∧ g < w.heap.size ∧ F g ∧ i < l.length ∧
    w.cell? ⟨g, i * 10, none⟩ = some (.int .i64 (x.1.cnt : Int)) ∧ w.cell? ⟨g, i * 10 + 1, none⟩ = some (.bool x.1.used) ∧ w.cell? ⟨g, i * 10 + 2, none⟩ = some (.bool x.1.nd.inn) ∧ w.cell? ⟨g, i * 10 + 3, none⟩ = some (.bool x.1.nd.tag) ∧ w.cell? ⟨g, i * 10 + 4, none⟩ = some x.2.pv ∧ w.cell? ⟨g, i * 10 + 5, none⟩ = some x.2.kv ∧ w.cell? ⟨g, i * 10 + 6, none⟩ = some x.2.zv ∧ w.cell? ⟨g, i * 10 + 7, none⟩ = some x.2.wv ∧ w.cell? ⟨g, i * 10 + 8, none⟩ = some (.int .i64 x.1.info) ∧ w.cell? ⟨g, i * 10 + 9, none⟩ = some (.bool x.1.mark) ∧ ∀ j, w.frozen? ⟨g, j, none⟩ = false := by
  obtain ⟨g, c, hP, hg, hF, _, _, _, hc, hz⟩ := h.formP hi
  exact ⟨g, c, hP, hg, hF, (List.getElem?_eq_some_iff.1 hi).1, by simpa [cellsOf] using hc 0 (by omega), hc 1 (by omega), hc 2 (by omega), hc 3 (by omega), hc 4 (by omega), hc 5 (by omega), hc 6 (by omega), hc 7 (by omega), hc 8 (by omega), hc 9 (by omega), hz⟩

/-- How many are used. -/
def usedN (l : List Pa) : Nat := (l.filter (·.used)).length
theorem usedN_snoc (l : List Pa) (p : Pa) : usedN (l ++ [p]) = usedN l + if p.used then 1 else 0 := by
  unfold usedN; rw [List.filter_append]; cases h : p.used <;> simp [h]
theorem usedN_le (l : List Pa) : usedN l ≤ l.length := List.length_filter_le _ _

section
variable {F : Nat → Prop} {w : World} {a : Nat} {S : As} {l : List (Pa × Vs)} {P Q : Value}
set_option maxHeartbeats 2000000 in
theorem usedD_walk (h : Ar true F w a S l P Q) (hl : S.pls.length ≤ 70000) :
    Calls Try.prog 15 #[ptr a] w fun e w' => e = .returned (.int .i64 ((usedN S.pls : Nat) : Int)) ∧ Below w.heap.size w w' := by
  obtain ⟨c0, c1, c2, c3⟩ := h.head1
  obtain ⟨A, c, hPP⟩ := h.shapeP
  have hln := h.lenP
  obtain ⟨n, hn⟩ : ∃ n, l.length = n := ⟨_, rfl⟩
  rw [hPP, hn] at c0
  have HN := Lib.hid hn
  have HLN := Lib.hid hln
  have H := Lib.hid h
  have hn7 : n ≤ 70000 := by omega
  have HPP := Lib.hid hPP
  clear h hn hln hPP c1 c2 c3
  go_enter Try.func15, Try.ntmps15
  go_wp2
  go_loopw [3, 11] (fun u i wr => ∃ k : Nat, k ≤ n ∧ i = .int .i64 (k : Int) ∧ u = .int .i64 ((usedN (S.pls.take k) : Nat) : Int) ∧ Below w.heap.size w wr) (fun _ i _ => n - (intOf i).toNat)
  case atStart => exact ⟨0, by omega, rfl, rfl, Below.refl _ _⟩
  case round =>
    obtain ⟨k, hk, rfl, rfl, hb⟩ := hrel
    by_cases hlt : k < n
    · have hkl : k < l.length := by have := HN.out; omega
      obtain ⟨x, hx⟩ : ∃ x, l[k]? = some x := ⟨_, List.getElem?_eq_getElem hkl⟩
      obtain ⟨g, c', hP, hg, _, _, e0, e1, e2, e3, e4, e5, e6, e7, e8, e9, _⟩ := H.out.cells1 hx
      have hAg : A = some ⟨g, 0, none⟩ := by rw [HPP.out] at hP; injection hP
      subst hAg
      replace e0 := below_read (p := ⟨g, k * 10, none⟩) (hb.trans (Below.refl _ _)) e0
      replace e1 := below_read hb e1
      replace e2 := below_read hb e2
      replace e3 := below_read hb e3
      replace e4 := below_read hb e4
      replace e5 := below_read hb e5
      replace e6 := below_read hb e6
      replace e7 := below_read hb e7
      replace e8 := below_read hb e8
      replace e9 := below_read hb e9
      have hsp : S.pls[k]? = some x.1 := by rw [H.out.pls, List.getElem?_map, hx]; rfl
      have hskl : k < S.pls.length := (List.getElem?_eq_some_iff.1 hsp).1
      have HT : Hid (usedN (S.pls.take (k + 1)) = usedN (S.pls.take k) + if x.1.used then 1 else 0) := by
        show _ = _
        rw [take_snoc _ _ hskl, (List.getElem?_eq_some_iff.1 hsp).2, usedN_snoc]
      have hle := usedN_le (S.pls.take k)
      rw [List.length_take] at hle
      have i0 : (0 : Int) ≤ (k : Int) := by omega
      have i1 : (k : Int) < (n : Int) := by omega
      have hkw : IntKind.i64.wrap ((k : Int) + 1) = (k : Int) + 1 := IntWalk.i64_in _ (by omega)
      obtain ⟨U, hU⟩ : ∃ U, usedN (S.pls.take k) = U := ⟨_, rfl⟩
      rw [hU] at HT hle ⊢
      have hUw : IntKind.i64.wrap ((U : Int) + 1) = (U : Int) + 1 := IntWalk.i64_in _ (by omega)
      have hmx := H.out.mem x (List.mem_of_getElem? hx)
      obtain ⟨⟨us, cn, nd, wz, inf, mrk⟩, ⟨pv, kv, zv, wv⟩⟩ := x
      obtain ⟨P1, P2, P3, rfl⟩ : ∃ A n c, pv = .slice A n c := hmx.ps.shape
      obtain ⟨K1, K2, K3, rfl⟩ : ∃ A n c, kv = .slice A n c := hmx.ks.shape
      obtain ⟨Z1, Z2, Z3, rfl⟩ : ∃ A n c, zv = .slice A n c := hmx.zs.shape
      obtain ⟨W1, W2, W3, rfl⟩ : ∃ A n c, wv = .slice A n c := hmx.ws.shape
      clear hmx
      simp only at e0 e1 e2 e3 e4 e5 e6 e7 e8 e9 HT
      clear hx hP hsp hU hle
      have hbz := hb.size
      cases us with
      | true =>
        go_wp2
        go_roundw
        case rel => exact ⟨k + 1, by omega, by go_num, by rw [HT.out]; go_num, hb.alloc hb.size _⟩
        case measure => simp [intOf]; omega
      | false =>
        go_wp2
        go_roundw
        case rel => exact ⟨k + 1, by omega, by go_num, by rw [HT.out]; rfl, hb.alloc hb.size _⟩
        case measure => simp [intOf]; omega
    · have hall : S.pls.take k = S.pls := List.take_of_length_le (by have := HN.out; have := HLN.out; omega)
      rw [hall]
      go_wp2
      go_ret
      exact ⟨rfl, hb⟩

theorem Ar.faultD (h : Ar true F w a S l P Q) (k : Int) (hk : k = ((S.flt + 1 : Nat) : Int)) : Ar true F (w.setCell ⟨a, 3, none⟩ (.int .i64 k)) a S.fault l P Q := by
  subst hk
  exact h.setHead 3 _ (m := S.most) (f := S.flt + 1) (P' := P) (Q' := Q) (fr := S.fr) rfl rfl h.que h.fque

set_option maxHeartbeats 4000000 in
theorem atD_walk (h : Ar true F w a S l P Q) (r : Int) (hl : S.pls.length ≤ 70000) (hc : ∀ p ∈ S.pls, p.cnt ≤ 1000000) (hf : S.flt ≤ 1000000) :
    Calls Try.prog 33 #[ptr a, .int .i64 r] w fun e w' => (∃ i, e = .returned (.int .i64 ((i : Nat) : Int)) ∧ Hit S r i ∧ Below w.heap.size w w') ∨ (e = .returned (.int .i64 (-1)) ∧ (∀ i, ¬ Hit S r i) ∧ Arn true F w' a S.fault ∧ Only F w w') := by
  obtain ⟨c0, c1, c2, c3⟩ := h.head1
  obtain ⟨A, c, hPP⟩ := h.shapeP
  have hln := h.lenP
  obtain ⟨n, hn⟩ : ∃ n, l.length = n := ⟨_, rfl⟩
  rw [hPP, hn] at c0
  have HN := Lib.hid hn
  have HLN := Lib.hid hln
  have H := Lib.hid h
  have hn7 : n ≤ 70000 := by omega
  have HPP := Lib.hid hPP
  have HC := Lib.hid hc
  clear h hn hln hPP c1 c2 hc
  go_enter Try.func33, Try.ntmps33
  go_wp2
  go_loopw [12] (fun i wr => ∃ k : Nat, k ≤ n ∧ i = .int .i64 (k : Int) ∧ Hid (∀ j, j < k → ¬ Hit S r j) ∧ Below w.heap.size w wr) (fun i _ => n - (intOf i).toNat)
  case atStart => exact ⟨0, by omega, rfl, fun j hj => by omega, Below.refl _ _⟩
  case round =>
    obtain ⟨k, hk, rfl, HNH, hb⟩ := hrel
    by_cases hlt : k < n
    · have hkl : k < l.length := by have := HN.out; omega
      obtain ⟨x, hx⟩ : ∃ x, l[k]? = some x := ⟨_, List.getElem?_eq_getElem hkl⟩
      obtain ⟨g, c', hP, hg, _, _, e0, e1, e2, e3, e4, e5, e6, e7, e8, e9, _⟩ := H.out.cells1 hx
      have hAg : A = some ⟨g, 0, none⟩ := by rw [HPP.out] at hP; injection hP
      subst hAg
      replace e0 := below_read hb e0
      replace e1 := below_read hb e1
      replace e2 := below_read hb e2
      replace e3 := below_read hb e3
      replace e4 := below_read hb e4
      replace e5 := below_read hb e5
      replace e6 := below_read hb e6
      replace e7 := below_read hb e7
      replace e8 := below_read hb e8
      replace e9 := below_read hb e9
      have hsp : S.pls[k]? = some x.1 := by rw [H.out.pls, List.getElem?_map, hx]; rfl
      have HSP := Lib.hid hsp
      have hcn := HC.out _ (List.mem_of_getElem? hsp)
      have i0 : (0 : Int) ≤ (k : Int) := by omega
      have i1 : (k : Int) < (n : Int) := by omega
      have hkw : IntKind.i64.wrap ((k : Int) + 1) = (k : Int) + 1 := IntWalk.i64_in _ (by omega)
      have hmx := H.out.mem x (List.mem_of_getElem? hx)
      obtain ⟨⟨us, cn, nd, wz, inf, mrk⟩, ⟨pv, kv, zv, wv⟩⟩ := x
      obtain ⟨P1, P2, P3, rfl⟩ : ∃ A n c, pv = .slice A n c := hmx.ps.shape
      obtain ⟨K1, K2, K3, rfl⟩ : ∃ A n c, kv = .slice A n c := hmx.ks.shape
      obtain ⟨Z1, Z2, Z3, rfl⟩ : ∃ A n c, zv = .slice A n c := hmx.zs.shape
      obtain ⟨W1, W2, W3, rfl⟩ : ∃ A n c, wv = .slice A n c := hmx.ws.shape
      clear hmx
      simp only at e0 e1 e2 e3 e4 e5 e6 e7 e8 e9 hcn HSP
      have hcu : IntKind.u32.wrap (cn : Int) = (cn : Int) := by simp only [IntKind.wrap_u32]; omega
      clear hx hP hsp
      have hbz := hb.size
      cases us with
      | true =>
        by_cases hm : mk (k : Int) (cn : Int) = r
        · have hm2 : (mk (k : Int) (cn : Int) == r) = true := by simpa using hm
          have HM2 := Lib.hid hm2
          have hb2 := hb.alloc hbz (.cells #[.int .i64 (cn : Int), .bool true, .bool nd.inn, .bool nd.tag, .slice P1 P2 P3, .slice K1 K2 K3, .slice Z1 Z2 Z3, .slice W1 W2 W3, .int .i64 inf, .bool mrk] 83)
          clear hm2
          go_wp2_with fail
          refine (refOf_walk k cn (by omega) _).mono ?_
          rintro e w5 ⟨rfl, rfl⟩
          have hm2 := HM2.out
          go_wp2
          go_ret
          exact .inl ⟨k, rfl, ⟨_, HSP.out, rfl, hm⟩, hb2⟩
        · have hm2 : (mk (k : Int) (cn : Int) == r) = false := by simpa using hm
          have HM2 := Lib.hid hm2
          have hb2 := hb.alloc hbz (.cells #[.int .i64 (cn : Int), .bool true, .bool nd.inn, .bool nd.tag, .slice P1 P2 P3, .slice K1 K2 K3, .slice Z1 Z2 Z3, .slice W1 W2 W3, .int .i64 inf, .bool mrk] 83)
          clear hm2
          go_wp2_with fail
          refine (refOf_walk k cn (by omega) _).mono ?_
          rintro e w5 ⟨rfl, rfl⟩
          have hm2 := HM2.out
          go_wp2
          go_roundw
          case rel =>
            refine ⟨k + 1, by omega, by go_num, ?_, hb2⟩
            intro j hj
            by_cases hjk : j < k
            · exact HNH.out j hjk
            · obtain rfl : j = k := by omega
              rintro ⟨p, hp, _, hmm⟩
              rw [HSP.out] at hp
              injection hp with hp
              subst hp
              exact hm hmm
          case measure => simp [intOf]; omega
      | false =>
        go_wp2
        go_roundw
        case rel =>
          refine ⟨k + 1, by omega, by go_num, ?_, hb.alloc hb.size _⟩
          intro j hj
          by_cases hjk : j < k
          · exact HNH.out j hjk
          · obtain rfl : j = k := by omega
            rintro ⟨p, hp, hu, _⟩
            rw [HSP.out] at hp
            injection hp with hp
            subst hp
            cases hu
        case measure => simp [intOf]; omega
    · have HNO : Hid (∀ i, ¬ Hit S r i) := by
        rintro i ⟨p, hp, hu, hm⟩
        exact HNH.out i (by have := (List.getElem?_eq_some_iff.1 hp).1; have := HN.out; have := HLN.out; omega) ⟨p, hp, hu, hm⟩
      have d3 := below_read hb c3
      have hbA := H.out.lta
      have z3 : wr.frozen? ⟨a, 3, none⟩ = false := (hb.frozen (p := ⟨a, 3, none⟩) hbA).trans (H.out.free 3)
      have hA := H.out.below hb
      have HA : ∀ k : Int, k = ((S.flt + 1 : Nat) : Int) → Hid (Arn true F (wr.setCell ⟨a, 3, none⟩ (.int .i64 k)) a S.fault ∧ Only F w (wr.setCell ⟨a, 3, none⟩ (.int .i64 k))) := fun k hk => ⟨⟨_, _, _, hA.faultD k hk⟩, (Only.of_below F hb).then (Only.set F wr (p := ⟨a, 3, none⟩) hA.fa _)⟩
      have hfl : IntKind.i64.wrap ((S.flt : Int) + 1) = (S.flt : Int) + 1 := IntWalk.i64_in _ (by omega)
      clear hA
      go_wp2
      go_ret
      exact .inr ⟨rfl, HNO.out, (HA _ (by omega)).out⟩
end
end Go.Proofs.Ytbalhjfkkigchaa
