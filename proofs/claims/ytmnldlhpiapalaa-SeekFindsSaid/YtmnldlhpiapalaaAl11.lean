/-
  A tree's pairs, from left to right: Shape.All.
-/
import Derived.Test.YtmnldlhpiapalaaPi
import Derived.Deep.Cut
namespace Go.Proofs.Ytmnldlhpiapalaa
open Go.ChangeShapes Go.WideShapes Go.ChangeAt Go.RowKit
set_option linter.unusedVariables false
set_option linter.unusedSimpArgs false
set_option maxRecDepth 20000

theorem all_take {kids : List Sh} {j : Nat} {x : Sh} (hx : kids[j]? = some x) : Sh.allL (kids.take (j + 1)) = Sh.allL (kids.take j) ++ x.all := by
  rw [List.take_add_one, hx]
  show Sh.allL (kids.take j ++ [x]) = _
  rw [allL_append]; simp [Sh.allL]
theorem all_len {kids : List Sh} (j : Nat) : (Sh.allL (kids.take j)).length ≤ (Sh.allL kids).length := by
  have := allL_append (kids.take j) (kids.drop j)
  rw [List.take_append_drop] at this
  rw [this]; simp
set_option maxHeartbeats 4000000 in
theorem all_walk : ∀ (n : Nat) (s : Sh), s.many ≤ n → s.small → s.all.length ≤ 1000 → ∀ (lo : Nat) (w : World) (v : Value), ShV lo w s v → lo ≤ w.heap.size →
    Calls Try.prog 47 #[v] w fun e w' => ∃ v', e = .returned v' ∧ Prs w.heap.size w' v' s.all ∧ Below w.heap.size w w' := by
  intro n
  induction n with
  | zero => intro s h; have := many_pos s; omega
  | succ n ih =>
    intro s hn hsm hal lo w v hv hlo
    obtain ⟨lf, tg, ps, ks, kids⟩ := s
    obtain ⟨A, na, c, B, m, e, C, p, q, rfl, h1, h2, h3, h4, h5, h6, h7⟩ := hv
    have hmk : (Sh.mk lf tg ps ks kids).many = Sh.manyL kids + 1 := rfl
    rw [hmk] at hn
    have hall : (Sh.mk lf tg ps ks kids).all = ps ++ Sh.allL kids := rfl
    rw [hall] at hal ⊢
    rw [List.length_append] at hal
    have hpl : p ≤ 100 := by have := hsm.2.2.1; omega
    have HP := Lib.hid h5
    have HSM := Lib.hid hsm
    have HAL := Lib.hid hal
    clear h5
    have IH := Lib.hid ih
    have HC : Hid (∀ (j : Nat) (s : Sh), kids[j]? = some s → ∃ g off, C = some ⟨g, off, none⟩ ∧ g < lo ∧ ShC lo w kids g off) := by
      intro j s hj
      rcases h7 with h7 | h7
      · subst h7; cases hj
      · exact h7
    obtain ⟨X, b, hX, hb, bX, eX, sX⟩ := Shc.new w (.bool lf) (.bool tg) (.slice A na c) (.slice B m e) (.slice C p q)
    obtain ⟨W1, g1, hX1, hg1, b1, e1, sz1⟩ := one_new X #[] 108
    have hp1 : Prs X.heap.size W1 (.slice (some ⟨g1, 0, none⟩) 0 0) [] := ⟨rfl, .inr ⟨g1, 0, #[], rfl, by omega, e1, Nat.le_refl _, Nat.zero_le _, rfl, rfl⟩⟩
    obtain ⟨v9, W2, hr9, hp2, hg2⟩ := run_pushP 69 _ _ hp1 _ _ _ _ ((h1.below bX).below b1) (by simp; omega) b1.size
    rw [List.nil_append] at hp2
    obtain ⟨A3, n3, c3, rfl⟩ := hp2.shape
    have hb2 : Below X.heap.size X W2 := b1.trans ((Below.refl _ W1).grown hg2 b1.size fun j hj => (World.ownsRow.lt hp1 j hj).1)
    have HW2 : Hid (Prs w.heap.size W2 (.slice A3 n3 c3) (ps ++ Sh.allL (kids.take 0)) ∧ Below w.heap.size w W2) := by
      refine ⟨?_, bX.trans (hb2.mono bX.size)⟩
      have e0 : ps ++ Sh.allL (kids.take 0) = ps := List.append_nil _
      rw [e0]
      exact hp2.lower bX.size
    obtain ⟨x0, x1, x2, x3, x4⟩ := (eX.below b1).cells
    obtain ⟨y0, y1, y2, y3, y4⟩ := (eX.below hb2).cells
    have HLO := Lib.hid hlo
    have HNM := Lib.hid hn
    clear ih h1 h2 h3 h4 h7 bX sX eX hn hlo hp1 hp2 hg2 hb2 b1 e1 sz1 hsm hal
    go_enter Try.func47, Try.ntmps47
    go_wp2_with (at_builtin; refine Lib.wpList_append_run _ rfl _ _ _ _ rfl _ _ rfl rfl _ _ hr9 ?_)
    (try rw [hX]); (try rw [hb])
    clear x0 x1 x2 x3 x4 y0 y1 y2 y3 y4 hX hb hmk hX1 hg1 hr9
    go_loopg [13, 3] p (fun gk iv tv wr => ∃ (j : Nat) (A3 : Option Addr) (n3 c3 : Nat), j + gk = p ∧ iv = .int .i64 (j : Int) ∧ tv = .slice A3 n3 c3 ∧ Hid (Prs w.heap.size wr (.slice A3 n3 c3) (ps ++ Sh.allL (kids.take j)) ∧ Below w.heap.size w wr))
    case atStart => exact ⟨0, A3, n3, c3, by omega, rfl, rfl, HW2.out⟩
    case round =>
      clear HW2
      obtain ⟨j, A3, n3, c3, hj, rfl, rfl, HB⟩ := hrel
      by_cases hlt : j < p
      case neg =>
        have i1 : ¬ ((j : Int) < (p : Int)) := by omega
        have HE : Hid (Prs w.heap.size wr (.slice A3 n3 c3) (ps ++ Sh.allL kids) ∧ Below w.heap.size w wr) := by
          have h := HB.out
          rw [List.take_of_length_le (by have := HP.out; omega)] at h
          exact h
        clear HC IH HB
        go_wp2
        go_ret
        exact ⟨_, rfl, HE.out.1, HE.out.2⟩
      have i1 : (j : Int) < (p : Int) := by omega
      have i0 : (0 : Int) ≤ (j : Int) := by omega
      have hkw : IntKind.i64.wrap ((j : Int) + 1) = (j : Int) + 1 := IntWalk.i64_in _ (by omega)
      obtain ⟨x, hx⟩ : ∃ x, kids[j]? = some x := ⟨_, List.getElem?_eq_getElem (by have := HP.out; omega)⟩
      obtain ⟨g, off, rfl, hg, hC⟩ := HC.out j x hx
      obtain ⟨lf', tg', A', n', c', B', m', e', C', p', q', c0, c1, c2, c3', c4, hV⟩ := hC.atF hx
      have c0 := below_read HB.out.2 c0
      have c1 := below_read HB.out.2 c1
      have c2 := below_read HB.out.2 c2
      have c3' := below_read HB.out.2 c3'
      have c4 := below_read HB.out.2 c4
      obtain ⟨V, u, hV2, hu, bV, eV, sV⟩ := Shc.new wr (.bool lf') (.bool tg') (.slice A' n' c') (.slice B' m' e') (.slice C' p' q')
      obtain ⟨x0, x1, x2, x3, x4⟩ := eV.cells
      have bwV : Below w.heap.size w V := HB.out.2.trans (bV.mono HB.out.2.size)
      have hmx : x.many ≤ Sh.manyL kids := many_le (List.mem_of_getElem? hx)
      have htk := all_take hx
      have hl1 := all_len (kids := kids) (j + 1)
      have hl2 : (Sh.allL (kids.take (j + 1))).length = (Sh.allL (kids.take j)).length + x.all.length := by rw [htk, List.length_append]
      have HI := Lib.hid (IH.out x (by have := HNM.out; omega) (smallL_mem HSM.out.2.2.2 (List.mem_of_getElem? hx)) (by have := HAL.out; omega) lo V _ (hV.below bwV HLO.out) (by have := HLO.out; have := bwV.size; omega))
      have HTK := Lib.hid htk
      have HBV := Lib.hid bwV
      have HPV : Hid (Prs w.heap.size V (.slice A3 n3 c3) (ps ++ Sh.allL (kids.take j))) := HB.out.1.next bV
      have HLN : Hid ((ps ++ Sh.allL (kids.take j)).length + x.all.length ≤ 1000) := by show _ ≤ _; rw [List.length_append]; have := HAL.out; omega
      clear hC hV bV eV sV bwV htk HC IH HB hx hl1 hl2
      go_wp2_with fail
      (try rw [hV2]); (try rw [hu])
      clear hV2 hu x0 x1 x2 x3 x4 c0 c1 c2 c3' c4
      refine HI.out.mono ?_
      rintro e w2 ⟨v2, rfl, hp2, b2⟩
      obtain ⟨A5, c5, rfl, hl5⟩ := hp2.form
      obtain ⟨n5, hn5⟩ : ∃ n, x.all.length = n := ⟨_, rfl⟩
      rw [hn5] at hl5 ⊢
      obtain ⟨v6, W6, hr6, hp6, hg6⟩ := run_pushP 69 _ _ (HPV.out.next b2) _ _ _ _ hl5 (by have := HLN.out; omega) (by have := HBV.out.size; have := b2.size; omega)
      obtain ⟨A7, n7, c7, rfl⟩ := hp6.shape
      have HE : Hid (Prs w.heap.size W6 (.slice A7 n7 c7) (ps ++ Sh.allL (kids.take (j + 1))) ∧ Below w.heap.size w W6) := by
        rw [HTK.out, ← List.append_assoc]
        refine ⟨hp6, ?_⟩
        have hb := HBV.out.trans (b2.mono HBV.out.size)
        exact hb.trans ((Below.refl _ w2).grown hg6 hb.size fun k hk => (World.ownsRow.lt (HPV.out.next b2) k hk).1)
      clear HI b2 HBV hp2 hl5 hp6 hg6 HPV HLN hn5
      go_wp2_with (at_builtin; refine Lib.wpList_append_run _ rfl _ _ _ _ rfl _ _ rfl rfl _ _ hr6 ?_)
      go_roundg (gk - 1)
      case measure => omega
      case rel => exact ⟨j + 1, A7, n7, c7, by omega, by go_num, rfl, HE.out⟩
end Go.Proofs.Ytmnldlhpiapalaa
