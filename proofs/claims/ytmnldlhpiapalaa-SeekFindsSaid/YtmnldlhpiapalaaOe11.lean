/-
  A tree's pairs rise; how deep it is: Shape.Deep.
-/
import Derived.Test.YtmnldlhpiapalaaPi
import Derived.Deep.Cut
import Derived.Lib.MinMax
namespace Go.Proofs.Ytmnldlhpiapalaa
open Go.ChangeShapes Go.WideShapes Go.ChangeAt Go.RowKit
set_option linter.unusedVariables false
set_option linter.unusedSimpArgs false
set_option maxRecDepth 20000

theorem allL_asc {l : List Sh} (h1 : ∀ t ∈ l, Asc t.all) (h2 : ∀ (a b : Nat) (ta tb : Sh), l[a]? = some ta → l[b]? = some tb → a < b → ∀ q ∈ ta.all, ∀ q' ∈ tb.all, q.1 < q'.1) : Asc (Sh.allL l) := by
  induction l with
  | nil => exact List.Pairwise.nil
  | cons s l ih =>
    refine List.pairwise_append.2 ⟨h1 s (List.mem_cons_self ..), ih (fun t ht => h1 t (List.mem_cons_of_mem _ ht)) (fun a b ta tb ha hb hab => h2 (a + 1) (b + 1) ta tb (by simpa using ha) (by simpa using hb) (by omega)), fun q hq q' hq' => ?_⟩
    obtain ⟨m, t, h3, h4⟩ := allL_mem hq'
    exact h2 0 (m + 1) s t rfl (by simpa using h3) (by omega) q hq q' h4
theorem all_asc : ∀ (n : Nat) (s : Sh), s.many ≤ n → s.wf → s.ord → Asc s.all := by
  intro n
  induction n with
  | zero => intro s h; have := many_pos s; omega
  | succ n ih =>
    intro s hn hw ho
    obtain ⟨lf, tg, ps, ks, kids⟩ := s
    have hmk : (Sh.mk lf tg ps ks kids).many = Sh.manyL kids + 1 := rfl
    rw [hmk] at hn
    obtain ⟨o1, o2, o3, o4⟩ := ho
    rcases hw.1 with ⟨-, rfl, -⟩ | ⟨e, hl⟩
    · show Asc (ps ++ [])
      rw [List.append_nil]; exact o2
    · have hps := o1 e
      subst hps
      show Asc ([] ++ Sh.allL kids)
      rw [List.nil_append]
      refine allL_asc (fun t ht => ih t (by have := many_le ht; omega) (wfL_mem hw.2.2 ht) (ordL_mem o4 ht)) fun a b ta tb ha hb hab q hq q' hq' => ?_
      have hbl := (List.getElem?_eq_some_iff.1 hb).1
      have haz : ks[a]? = some (ks[a]'(by omega)) := List.getElem?_eq_getElem (by omega)
      have h1 := (o3 a a _ ta haz ha q hq).1 (by omega)
      have h2 := (o3 a b _ tb haz hb q' hq').2 (by omega)
      omega
theorem wantL_of_mem {l : List (Int × Int)} (ha : Asc l) {p : Int × Int} (hp : p ∈ l) : wantL l p.1 = p.2 := by
  induction l with
  | nil => cases hp
  | cons a l ih =>
    unfold wantL
    rcases List.mem_cons.1 hp with rfl | hp
    · rw [if_pos rfl]
    · have := (List.pairwise_cons.1 ha).1 p hp
      rw [if_neg (by omega)]
      exact ih ha.tail hp
theorem deepL_take_succ {kids : List Sh} {j : Nat} {x : Sh} (hx : kids[j]? = some x) : Sh.deepL (kids.take (j + 1)) = max (Sh.deepL (kids.take j)) (x.deep + 1) := by
  rw [List.take_add_one, hx]
  show Sh.deepL (kids.take j ++ [x]) = _
  rw [deepL_append]; simp [Sh.deepL]
set_option maxHeartbeats 4000000 in
theorem deep_walk : ∀ (n : Nat) (s : Sh), s.many ≤ n → s.many ≤ 100000 → s.deep ≤ 100000 → ∀ (lo : Nat) (w : World) (v : Value), ShV lo w s v → lo ≤ w.heap.size →
    Calls Try.prog 50 #[v] w fun e w' => e = .returned (.int .i64 (s.deep : Int)) ∧ Below w.heap.size w w' := by
  intro n
  induction n with
  | zero => intro s h; have := many_pos s; omega
  | succ n ih =>
    intro s hn hm hd lo w v hv hlo
    obtain ⟨lf, tg, ps, ks, kids⟩ := s
    obtain ⟨A, na, c, B, m, e, C, p, q, rfl, h1, h2, h3, h4, h5, h6, h7⟩ := hv
    have hmk : (Sh.mk lf tg ps ks kids).many = Sh.manyL kids + 1 := rfl
    have hdk : (Sh.mk lf tg ps ks kids).deep = Sh.deepL kids := rfl
    rw [hmk] at hn hm
    rw [hdk] at hd ⊢
    have hpl : p ≤ 100000 := by have := len_le_many kids; omega
    have HP := Lib.hid h5
    clear h5
    have IH := Lib.hid ih
    have HC : Hid (∀ (j : Nat) (s : Sh), kids[j]? = some s → ∃ g off, C = some ⟨g, off, none⟩ ∧ g < lo ∧ ShC lo w kids g off) := by
      intro j s hj
      rcases h7 with h7 | h7
      · subst h7; cases hj
      · exact h7
    obtain ⟨X, b, hX, hb, bX, eX, sX⟩ := Shc.new w (.bool lf) (.bool tg) (.slice A na c) (.slice B m e) (.slice C p q)
    obtain ⟨x0, x1, x2, x3, x4⟩ := eX.cells
    have HBX : Hid (Below w.heap.size w X) := bX
    have HLO := Lib.hid hlo
    have HNM := Lib.hid hn
    have HD := Lib.hid hd
    have HMM := Lib.hid hm
    clear ih h1 h2 h3 h4 h7 bX sX eX hn hlo hd hm
    go_enter Try.func50, Try.ntmps50
    go_wp2_with fail
    (try rw [hX]); (try rw [hb])
    clear x0 x1 x2 x3 x4 hX hb hmk hdk
    go_loopg [9, 3] p (fun gk iv tv wr => ∃ j : Nat, j + gk = p ∧ iv = .int .i64 (j : Int) ∧ tv = .int .i64 ((Sh.deepL (kids.take j) : Nat) : Int) ∧ Hid (Below w.heap.size w wr))
    case atStart => exact ⟨0, by omega, rfl, rfl, HBX.out⟩
    case round =>
      obtain ⟨j, hj, rfl, rfl, HB⟩ := hrel
      by_cases hlt : j < p
      case neg =>
        have i1 : ¬ ((j : Int) < (p : Int)) := by omega
        have hE : kids.take j = kids := List.take_of_length_le (by have := HP.out; omega)
        rw [hE]
        clear HC IH
        go_wp2
        go_ret
        exact ⟨rfl, HB.out⟩
      have i1 : (j : Int) < (p : Int) := by omega
      have i0 : (0 : Int) ≤ (j : Int) := by omega
      have hkw : IntKind.i64.wrap ((j : Int) + 1) = (j : Int) + 1 := IntWalk.i64_in _ (by omega)
      obtain ⟨x, hx⟩ : ∃ x, kids[j]? = some x := ⟨_, List.getElem?_eq_getElem (by have := HP.out; omega)⟩
      obtain ⟨g, off, rfl, hg, hC⟩ := HC.out j x hx
      obtain ⟨lf', tg', A', n', c', B', m', e', C', p', q', c0, c1, c2, c3, c4, hV⟩ := hC.atF hx
      have c0 := below_read HB.out c0
      have c1 := below_read HB.out c1
      have c2 := below_read HB.out c2
      have c3 := below_read HB.out c3
      have c4 := below_read HB.out c4
      obtain ⟨V, u, hV2, hu, bV, eV, sV⟩ := Shc.new wr (.bool lf') (.bool tg') (.slice A' n' c') (.slice B' m' e') (.slice C' p' q')
      obtain ⟨x0, x1, x2, x3, x4⟩ := eV.cells
      have bwV : Below w.heap.size w V := HB.out.trans (bV.mono HB.out.size)
      have hmx : x.many ≤ Sh.manyL kids := many_le (List.mem_of_getElem? hx)
      have hdx : x.deep < Sh.deepL kids := deep_lt (List.mem_of_getElem? hx)
      have htk := deepL_take_succ hx
      have HI := Lib.hid (IH.out x (by have := HNM.out; omega) (by have := HMM.out; omega) (by have := HD.out; omega) lo V _ (hV.below bwV HLO.out) (by have := HLO.out; have := bwV.size; omega))
      have HTK := Lib.hid htk
      have HBV := Lib.hid bwV
      have hdb : x.deep < 100000 := by have := HD.out; omega
      obtain ⟨xd, hxd⟩ : ∃ z, x.deep = z := ⟨_, rfl⟩
      rw [hxd] at HI HTK hdb
      have hw2 : IntKind.i64.wrap (1 + (xd : Int)) = ((xd + 1 : Nat) : Int) := by rw [show ((xd + 1 : Nat) : Int) = 1 + (xd : Int) from by omega]; exact IntWalk.i64_in _ (by omega)
      obtain ⟨xe, hxe⟩ : ∃ z, xd + 1 = z := ⟨_, rfl⟩
      rw [hxe] at hw2 HTK
      clear hC hV bV eV sV bwV htk HC IH HB hx hdx hmx hxd hxe hdb
      obtain ⟨k0, hk0⟩ : ∃ z, Sh.deepL (kids.take j) = z := ⟨_, rfl⟩
      rw [hk0] at HTK ⊢
      obtain ⟨k1, hk1⟩ : ∃ z, Sh.deepL (kids.take (j + 1)) = z := ⟨_, rfl⟩
      rw [hk1] at HTK
      have hmx2 : max (k0 : Int) (xe : Int) = (k1 : Int) := by have := HTK.out; omega
      have HK1 := Lib.hid hk1
      clear hk0 hk1
      go_wp2_with fail
      (try rw [hV2]); (try rw [hu])
      clear hV2 hu x0 x1 x2 x3 x4 c0 c1 c2 c3 c4
      refine HI.out.mono ?_
      rintro e w2 ⟨rfl, b2⟩
      have HE : Hid (Below w.heap.size w w2) := HBV.out.trans (b2.mono HBV.out.size)
      clear HI b2 HBV
      go_wp2
      go_roundg (gk - 1)
      case measure => omega
      case rel => exact ⟨j + 1, by omega, by go_num, by rw [HK1.out], HE.out⟩
end Go.Proofs.Ytmnldlhpiapalaa
