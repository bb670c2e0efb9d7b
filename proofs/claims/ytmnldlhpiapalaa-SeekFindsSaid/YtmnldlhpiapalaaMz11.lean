/-
  A tree's nodes, made from its leaves on.
-/
import Derived.Test.YtmnldlhpiapalaaMy11
import Derived.Test.YtmnldlhpiapalaaLs10
namespace Go.Proofs.Ytmnldlhpiapalaa
open Go.ChangeShapes Go.WideShapes Go.ChangeAt Go.RowKit
set_option linter.unusedVariables false
set_option linter.unusedSimpArgs false
set_option maxRecDepth 20000

mutual
theorem pas_cnt : ∀ (s : Sh) (i : Nat), ∀ p ∈ s.pas i, p.cnt = 1
  | .mk lf tg ps ks kids, i => fun p hp => by
    simp only [Sh.pas, List.mem_append, List.mem_singleton] at hp
    rcases hp with hp | rfl
    · exact pasL_cnt kids i p hp
    · rfl
theorem pasL_cnt : ∀ (l : List Sh) (i : Nat), ∀ p ∈ Sh.pasL l i, p.cnt = 1
  | [], _ => fun p hp => by cases hp
  | s :: l, i => fun p hp => by
    simp only [Sh.pasL, List.mem_append] at hp
    rcases hp with hp | hp
    · exact pas_cnt s i p hp
    · exact pasL_cnt l _ p hp
end
theorem ok_addP {s : Sig} {l : List Pa} (h : Ok s.ar) (hl : s.ar.pls.length + l.length ≤ 60000) (hc : ∀ p ∈ l, p.cnt = 1) : Ok (addP s l).ar :=
  ⟨by show (s.ar.pls ++ l).length ≤ _; rw [List.length_append]; omega, fun p hp => by
    rcases List.mem_append.1 (show p ∈ s.ar.pls ++ l from hp) with e | e
    · exact h.cnt p e
    · rw [hc p e]; omega, h.flt, h.fr⟩
/-- Where made is: its node's variable at u, the ways so far in T. -/
structure MDI (d : Wd) (FW : Nat → Prop) (w : World) (sg : Sig) (u : Nat) (x y : Bool) (pv kv T : Value) (zs : List Int) (FW' : Nat → Prop) (wr : World) : Prop where
  ws : WS d FW' wr sg
  only : Only FW w wr
  fr : ∀ b, FW' b → FW b ∨ w.heap.size ≤ b
  five : Five wr u x y pv kv T
  nu : ¬ FW' u ∧ w.heap.size ≤ u
  row : Row rfT 0 wr T zs
  own : ∀ b, T.ownBlock = some b → w.heap.size ≤ b ∧ ¬ FW' b ∧ b ≠ u
section
variable {d : Wd} {FW FW' : Nat → Prop} {w w' wr : World} {sg sg' : Sig} {u : Nat} {x y : Bool} {pv kv T : Value} {zs : List Int}
theorem MDI.below (h : MDI d FW w sg u x y pv kv T zs FW' wr) (hb : Below wr.heap.size wr w') : MDI d FW w sg u x y pv kv T zs FW' w' :=
  ⟨h.ws.below hb, ⟨hb.os.trans h.only.os, hb.tape.trans h.only.tape, hb.output.trans h.only.output, Nat.le_trans h.only.size hb.size, fun k hk hn => (hb.block k (Nat.lt_of_lt_of_le hk h.only.size)).trans (h.only.block k hk hn)⟩, h.fr, h.five.below hb, h.nu, own_at h.row fun b e => hb.block b (World.ownsRow.lt h.row b e).2, h.own⟩
theorem MDI.made (h : MDI d FW w sg u x y pv kv T zs FW' wr) (hn : NxW d FW' wr sg' w') : ∃ FW2, MDI d FW w sg' u x y pv kv T zs FW2 w' := by
  obtain ⟨FW2, h1, h2, h3⟩ := hn
  have hu := h.five.lt
  have hno : ∀ b, b < wr.heap.size → ¬ FW' b → ¬ FW2 b := fun b e1 e2 f => by rcases h3 b f with e | e; (· exact e2 e); (· omega)
  refine ⟨FW2, h1, ⟨h2.os.trans h.only.os, h2.tape.trans h.only.tape, h2.output.trans h.only.output, Nat.le_trans h.only.size h2.size, fun k hk hn => (h2.block k (Nat.lt_of_lt_of_le hk h.only.size) fun f => ?_).trans (h.only.block k hk hn)⟩, fun b e => ?_, (h2.block u hu h.nu.1).trans h.five, ⟨hno u hu h.nu.1, h.nu.2⟩, own_at h.row fun b e => h2.block b (World.ownsRow.lt h.row b e).2 (h.own b e).2.1, fun b e => ⟨(h.own b e).1, hno b (World.ownsRow.lt h.row b e).2 (h.own b e).2.1, (h.own b e).2.2⟩⟩
  · rcases h.fr k f with e | e
    · exact hn e
    · omega
  · rcases h3 b e with e | e
    · exact h.fr b e
    · exact .inr (Nat.le_trans h.only.size e)
theorem MDI.push {z : Int} {g : Nat} (h : MDI d FW w sg u x y pv kv T zs FW' wr) (hg : wr.heap[g]? = some (.cells #[.int .i64 z] rfT (0, 0))) (hl : zs.length ≤ 1000) :
    ∃ A' m' c' Z, (Builtin.append_ #[26, 26] 26 #[T, .slice (some ⟨g, 0, none⟩) 1 1]).run Try.prog wr = .ok (.slice A' m' c') Z ∧ Z.cell? ⟨u, 4, none⟩ = some T ∧ Z.frozen? ⟨u, 4, none⟩ = false ∧ MDI d FW w sg u x y pv kv (.slice A' m' c') (zs ++ [z]) FW' (Z.setCell ⟨u, 4, none⟩ (.slice A' m' c')) := by
  obtain ⟨A', m', c', Z, q1, q2, q3, q4⟩ := run_pushN rowR h.row (sl_one9 (z := z) (num_cell hg)) (by simp; omega) (by simp)
  have hu := h.five.lt
  have hws := h.only.size
  have hZu : Z.heap[u]? = wr.heap[u]? := q3.block u hu fun e => (h.own u e.symm).2.2 rfl
  have f5 : Five Z u x y pv kv T := hZu.trans h.five
  have hne : ∀ b, b ≠ u → (Z.setCell ⟨u, 4, none⟩ (.slice A' m' c')).heap[b]? = Z.heap[b]? := fun b e => heap_setCell_other Z ⟨u, 4, none⟩ b _ (fun e2 => e e2)
  have own' : ∀ b, (Value.slice A' m' c').ownBlock = some b → w.heap.size ≤ b ∧ ¬ FW' b ∧ b ≠ u := fun b e => by
    rcases q4 b e with e | e
    · exact h.own b e
    · exact ⟨by omega, fun f => by have := h.ws.lt b f; omega, by omega⟩
  have hsz : (Z.setCell ⟨u, 4, none⟩ (.slice A' m' c')).heap.size = Z.heap.size := by simp
  refine ⟨A', m', c', Z, q1, f5.cells.2.2.2.2, f5.free 4, ?_, ⟨q3.os.trans h.only.os, q3.tape.trans h.only.tape, q3.output.trans h.only.output, by rw [hsz]; exact Nat.le_trans hws q3.size, fun k hk hn => ?_⟩, h.fr, f5.set4 _, h.nu, own_at q2 fun b e => hne b (own' b e).2.2, own'⟩
  · exact h.ws.keep (fun b e => by
      rw [hne b (fun e2 => h.nu.1 (e2 ▸ e))]
      exact q3.block b (h.ws.lt b e) fun e2 => (h.own b e2.symm).2.1 e) (by rw [hsz]; exact q3.size)
  · rw [hne k (by have := h.nu.2; omega), q3.block k (Nat.lt_of_lt_of_le hk hws) fun e => by have := (h.own k e.symm).1; omega]
    exact h.only.block k hk hn
end
set_option maxHeartbeats 8000000 in
theorem made_walk : ∀ (n : Nat) (s : Sh), s.many ≤ n → s.small → ∀ (d : Wd) (FW : Nat → Prop) (lo : Nat) (w : World) (v : Value) (sg : Sig), ShV lo w s v → lo ≤ w.heap.size → WS d FW w sg → (∀ b, FW b → lo ≤ b) → sg.ar.fr = [] → Ok sg.ar → sg.ar.pls.length + s.many ≤ sg.ar.most → sg.ar.pls.length + s.many ≤ 60000 →
    Calls Try.prog 104 #[ptr d.A, v] w fun e w' => e = .returned (.int .i64 (Go.Proofs.Ytmnldlhpiapalaa.mk ((sg.ar.pls.length + s.many - 1 : Nat) : Int) 1)) ∧ NxW d FW w (addP sg (s.pas sg.ar.pls.length)) w' := by
  intro n
  induction n with
  | zero => intro s h; have := many_pos s; omega
  | succ n ih =>
    intro s hn hsm d FW lo w v sg hv hlo hws hFW hfr hok hmo hbd
    obtain ⟨lf, tg, ps, ks, kids⟩ := s
    obtain ⟨A, na, c, B, m, e, C, p, q, rfl, h1, h2, h3, h4, h5, h6, h7⟩ := hv
    obtain ⟨hs1, hs2, hs3, hs4⟩ := hsm
    have hmk : (Sh.mk lf tg ps ks kids).many = Sh.manyL kids + 1 := rfl
    rw [hmk] at hn hmo hbd ⊢
    have hpl : p ≤ 100 := by omega
    have hna : na = ps.length := h1.len
    have hmb : m = ks.length := h3.len
    obtain ⟨i0, hi0⟩ : ∃ i0, sg.ar.pls.length = i0 := ⟨_, rfl⟩
    rw [hi0] at hmo hbd ⊢
    have HP := Lib.hid h5
    have IH := Lib.hid ih
    have HC : Hid (∀ (j : Nat) (s : Sh), kids[j]? = some s → ∃ g off, C = some ⟨g, off, none⟩ ∧ g < lo ∧ ShC lo w kids g off) := by
      intro j s hj
      rcases h7 with h7 | h7
      · subst h7; cases hj
      · exact h7
    obtain ⟨X, b, hX, hb, bX, eX, sX⟩ := Shc.new w (.bool lf) (.bool tg) (.slice A na c) (.slice B m e) (.slice C p q)
    obtain ⟨x0, x1, x2, x3, x4⟩ := eX.cells
    obtain ⟨V, u, hV, hu, bV, fV, sV⟩ : ∃ (V : World) (u : Nat), X.alloc (.cells #[.bool (!lf), .bool tg, .slice A na c, .slice B m e, .slice none 0 0] 73) = V ∧ X.heap.size = u ∧ Below X.heap.size X V ∧ Five V u (!lf) tg (.slice A na c) (.slice B m e) (.slice none 0 0) ∧ V.heap.size = u + 1 := ⟨_, _, rfl, rfl, below_new _ _, Five.new _ rfl _ _ _ _ _, by simp⟩
    obtain ⟨U, hU, bU, fU⟩ : ∃ U : World, V.setCell ⟨u, 4, none⟩ (.slice none 0 0) = U ∧ Below X.heap.size X U ∧ Five U u (!lf) tg (.slice A na c) (.slice B m e) (.slice none 0 0) := ⟨_, rfl, bV.setCell (p := ⟨u, 4, none⟩) (by show X.heap.size ≤ u; omega) _, fV.set4 _⟩
    have bwU : Below w.heap.size w U := bX.trans (bU.mono bX.size)
    have HMD : Hid (∃ FW', MDI d FW w (addP sg (Sh.pasL (kids.take 0) i0)) u (!lf) tg (.slice A na c) (.slice B m e) (.slice none 0 0) (refsL (kids.take 0) i0) FW' U) := by
      refine ⟨FW, ?_, ⟨bwU.os, bwU.tape, bwU.output, bwU.size, fun k hk _ => bwU.block k hk⟩, fun b e => .inl e, fU, ⟨fun f => ?_, by have := bX.size; omega⟩, Row.nil _ _ _, fun b e => (by cases e)⟩
      · show WS d FW U (addP sg [])
        rw [addP_nil]; exact hws.below bwU
      · have := hws.lt u f; have := bX.size; omega
    have HLO := Lib.hid hlo
    have HFW := Lib.hid hFW
    have HFR := Lib.hid hfr
    have HOK := Lib.hid hok
    have HI0 := Lib.hid hi0
    have HN := Lib.hid hn
    have HS4 := Lib.hid hs4
    have HS1 := Lib.hid hs1
    have HS2 := Lib.hid hs2
    have H1 := Lib.hid h1
    have H2 := Lib.hid h2
    have H3 := Lib.hid h3
    have H4 := Lib.hid h4
    have HNA := Lib.hid hna
    have HMB := Lib.hid hmb
    obtain ⟨y0, y1, y2, y3, y4⟩ := fV.cells
    have y5 := fV.free 4
    have x4U := below_read bU x4
    clear ih h1 h2 h3 h4 h5 h7 bX sX eX hn hlo hFW hfr hok hi0 hs4 hs1 hs2 hna hmb bV fV sV bU fU bwU hws hmk
    go_enter Try.func104, Try.ntmps104
    go_wp2_with fail
    (try rw [hU])
    clear x0 x1 x2 x3 x4 x4U y0 y1 y2 y3 y4 y5 hX hV hU hb hu
    go_loopg [24] p (fun gk iv wr => ∃ (j : Nat) (T : Value) (FW' : Nat → Prop), j + gk = p ∧ iv = .int .i64 (j : Int) ∧ Hid (MDI d FW w (addP sg (Sh.pasL (kids.take j) i0)) u (!lf) tg (.slice A na c) (.slice B m e) T (refsL (kids.take j) i0) FW' wr))
    case atStart => obtain ⟨FW', h⟩ := HMD.out; exact ⟨0, _, FW', by omega, rfl, h⟩
    case round =>
      clear HMD
      obtain ⟨j, T, FW', hj, rfl, HH⟩ := hrel
      by_cases hlt : j < p
      case neg =>
        have i1 : ¬ ((j : Int) < (p : Int)) := by omega
        have htk : kids.take j = kids := List.take_of_length_le (by have := HP.out; omega)
        have hH := HH.out
        rw [htk] at hH
        obtain ⟨C3, n3, q3, rfl⟩ := hH.row.shape
        have HAl : Hid (Calls Try.prog 53 #[ptr d.A, ndv (!lf) tg (.slice A na c) (.slice B m e) (.slice C3 n3 q3)] wr fun e w' => ∃ bb, e = .returned (.tuple #[.int .i64 (Go.Proofs.Ytmnldlhpiapalaa.mk ((i0 + (Sh.manyL kids + 1) - 1 : Nat) : Int) 1), .bool bb]) ∧ NxW d FW w (addP sg (Sh.pas (.mk lf tg ps ks kids) i0)) w') := by
          have hlen : (addP sg (Sh.pasL kids i0)).ar.pls.length = i0 + Sh.manyL kids := by
            show (sg.ar.pls ++ _).length = _
            rw [List.length_append, pasL_len, HI0.out]
          have hfr2 : (addP sg (Sh.pasL kids i0)).ar.fr = [] := HFR.out
          have hlow : ∀ b, b < lo → wr.heap[b]? = w.heap[b]? := fun b hb => hH.only.block b (by have := HLO.out; omega) fun f => by have := HFW.out b f; omega
          have hno : ∀ b, b < lo → ¬ FW' b := fun b hb f => by
            rcases hH.fr b f with e | e
            · have := HFW.out b e; omega
            · have := HLO.out; omega
          have hn3 : n3 = (refsL kids i0).length := hH.row.sl.len
          have hRd : RdF FW' wr (ndv (!lf) tg (.slice A na c) (.slice B m e) (.slice C3 n3 q3)) ⟨!lf, tg, ps, ks, refsL kids i0⟩ := by
            have hna := HNA.out
            have hmb := HMB.out
            have g1 := lp_keepB H1.out H2.out hlow
            have g2 := sl_keepB H3.out H4.out hlow
            have g3 := hH.row.sl
            rw [hna] at g1
            rw [hmb] at g2
            rw [hn3] at g3
            refine ⟨A, c, B, e, C3, q3, by rw [hna, hmb, hn3], g1, g2, g3, ?_⟩
            rintro ad (f | f | f)
            · exact hno _ (H2.out ad f)
            · exact hno _ (H4.out ad f)
            · subst f
              have hr : wr.ownsRow 0 rfT 1 (.slice (some ad) n3 q3) (refsL kids i0).length (ints (refsL kids i0)) := hH.row
              rcases hr.2 with ⟨e2, _⟩ | ⟨g2, cap, cur, e2, _⟩
              · cases e2
              · injection e2 with e3 e4 e5
                injection e3 with e3
                subst e3
                exact (hH.own g2 rfl).2.1
          have hmk := nxW_make hH.ws (ok_addP HOK.out (by rw [pasL_len, HI0.out]; omega) (pasL_cnt kids i0)) (by rw [hfr2]; intro i hi; cases hi) hRd ⟨HS1.out, HS2.out, by show (refsL kids i0).length ≤ 100; rw [refsL_len]; have := HP.out; omega⟩
          rw [gMake_new hfr2 (by rw [hlen]; show _ < sg.ar.most; omega), hlen, addP_add] at hmk
          refine hmk.mono ?_
          rintro e w' ⟨bb, rfl, hn⟩
          obtain ⟨FW2, h2⟩ := hH.made hn
          exact ⟨bb, rfl, FW2, h2.ws, h2.only, h2.fr⟩
        obtain ⟨y0, y1, y2, y3, y4⟩ := hH.five.cells
        clear HH IH HC hH
        go_wp2_with fail
        refine HAl.out.mono ?_
        rintro e w3 ⟨bb, rfl, hn⟩
        have HE := Lib.hid hn
        clear HAl hn y0 y1 y2 y3 y4
        go_wp2
        go_ret
        exact ⟨rfl, HE.out⟩
      have i1 : (j : Int) < (p : Int) := by omega
      have i0' : (0 : Int) ≤ (j : Int) := by omega
      have hkw : IntKind.i64.wrap ((j : Int) + 1) = (j : Int) + 1 := IntWalk.i64_in _ (by omega)
      obtain ⟨x, hx⟩ : ∃ x, kids[j]? = some x := ⟨_, List.getElem?_eq_getElem (by have := HP.out; omega)⟩
      obtain ⟨g, off, rfl, hg, hC0⟩ := HC.out j x hx
      have hH := HH.out
      have hlow : ∀ b, b < lo → wr.heap[b]? = w.heap[b]? := fun b hb => hH.only.block b (by have := HLO.out; omega) fun f => by have := HFW.out b f; omega
      have hC := ShC.keep hlow (Nat.le_refl lo) kids g off hg hC0
      obtain ⟨lf', tg', A', n', c', B', m', e', C', p', q', c0, c1, c2, c3, c4, hV⟩ := hC.atF hx
      obtain ⟨V2, u2, hV2, hu2, bV2, eV2, sV2⟩ := Shc.new wr (.bool lf') (.bool tg') (.slice A' n' c') (.slice B' m' e') (.slice C' p' q')
      have hlo2 : lo ≤ wr.heap.size := Nat.le_trans HLO.out hH.only.size
      have HSV : Hid (ShV lo V2 x (shv lf' tg' (.slice A' n' c') (.slice B' m' e') (.slice C' p' q'))) := hV.below bV2 hlo2
      have HL2 : Hid (lo ≤ V2.heap.size) := Nat.le_trans hlo2 bV2.size
      have HM2 := Lib.hid (hH.below bV2)
      have HE2 := Lib.hid eV2
      have HNU : Hid (¬ FW' u2) := fun f => by have := hH.ws.lt u2 f; omega
      have hmx : x.many ≤ Sh.manyL kids := many_le (List.mem_of_getElem? hx)
      have hsx : x.small := smallL_mem HS4.out (List.mem_of_getElem? hx)
      have htk : kids.take (j + 1) = kids.take j ++ [x] := by rw [List.take_add_one, hx]; rfl
      have hmt : Sh.manyL (kids.take j) + x.many ≤ Sh.manyL kids := by
        have := manyL_append (kids.take (j + 1)) (kids.drop (j + 1))
        rw [List.take_append_drop, htk, manyL_append] at this
        simp [Sh.manyL] at this; omega
      have HTK := Lib.hid htk
      have HXM := Lib.hid hmx
      have HXS := Lib.hid hsx
      have HMT := Lib.hid hmt
      obtain ⟨x0, x1, x2, x3, x4⟩ := eV2.cells
      clear HH hH hlow hC hV hlo2 bV2 eV2 sV2 hmx hsx htk hmt hx hC0 HC
      go_upto_region 5 with fail
      (try rw [hV2]); (try rw [hu2])
      clear hV2 hu2 x0 x1 x2 x3 x4 c0 c1 c2 c3 c4
      obtain ⟨X0, hX0, hbX0⟩ : ∃ X0 : World, V2.drew = X0 ∧ Below V2.heap.size V2 X0 := ⟨_, rfl, (Below.refl _ V2).drew⟩
      have HM3 := Lib.hid (HM2.out.below hbX0)
      have HE3 := Lib.hid (HE2.out.below hbX0)
      have HS3 : Hid (ShV lo X0 x (shv lf' tg' (.slice A' n' c') (.slice B' m' e') (.slice C' p' q'))) := HSV.out.below hbX0 HL2.out
      have HL3 : Hid (lo ≤ X0.heap.size) := Nat.le_trans HL2.out hbX0.size
      have HI : Hid (Calls Try.prog 104 #[ptr d.A, shv lf' tg' (.slice A' n' c') (.slice B' m' e') (.slice C' p' q')] X0 fun e w' => e = .returned (.int .i64 (Go.Proofs.Ytmnldlhpiapalaa.mk ((i0 + Sh.manyL (kids.take j) + x.many - 1 : Nat) : Int) 1)) ∧ NxW d FW' X0 (addP sg (Sh.pasL (kids.take (j + 1)) i0)) w') := by
        have hM := HM3.out
        have hlen : (addP sg (Sh.pasL (kids.take j) i0)).ar.pls.length = i0 + Sh.manyL (kids.take j) := by
          show (sg.ar.pls ++ _).length = _
          rw [List.length_append, pasL_len, HI0.out]
        have := IH.out x (by have := HXM.out; have := HN.out; omega) HXS.out d FW' lo X0 _ _ HS3.out HL3.out hM.ws (fun b f => by
          rcases hM.fr b f with e | e
          · exact HFW.out b e
          · exact Nat.le_trans HLO.out e) HFR.out (ok_addP HOK.out (by rw [pasL_len, HI0.out]; have := HMT.out; omega) (pasL_cnt _ i0)) (by rw [hlen]; show _ ≤ sg.ar.most; have := HMT.out; omega) (by rw [hlen]; have := HMT.out; omega)
        rw [hlen, addP_add] at this
        show Calls _ _ _ _ _
        rw [HTK.out, pasL_append]
        simpa [Sh.pasL] using this
      refine region_T (fun k => Nat.ble 7 k) (fun w' => w'.cell? ⟨u, 4, none⟩ = some T ∧ w'.cell? ⟨u2, 0, none⟩ = some (.bool lf') ∧ w'.cell? ⟨u2, 1, none⟩ = some (.bool tg') ∧ w'.cell? ⟨u2, 2, none⟩ = some (.slice A' n' c') ∧ w'.cell? ⟨u2, 3, none⟩ = some (.slice B' m' e') ∧ w'.cell? ⟨u2, 4, none⟩ = some (.slice C' p' q')) (by kernel_rfl) ?_
      rw [hX0]
      clear hX0 HM2 HE2 HSV HL2 hbX0
      have hC := And.intro HM3.out.five.cells.2.2.2.2 HE3.out.cells
      refine takeX 0 28 (v := ?_) rfl rfl (by kernel_rfl) (by kernel_rfl) (by kernel_rfl) (by kernel_rfl) (by kernel_rfl) (fun _ _ _ _ h => h) hC (by rfl) ?_ ?_
      rotate_left
      · intro w hSw; (try dsimp only at hSw); go_simp; try (with_reducible rfl)
      simp only [List.setIfInBounds_toArray, List.set_cons_zero, List.set_cons_succ]
      refine takeX 1 29 (v := ?_) rfl rfl (by kernel_rfl) (by kernel_rfl) (by kernel_rfl) (by kernel_rfl) (by kernel_rfl) (fun _ _ _ _ h => h) hC (by rfl) ?_ ?_
      rotate_left
      · intro w hSw; (try dsimp only at hSw); go_simp; try (with_reducible rfl)
      simp only [List.setIfInBounds_toArray, List.set_cons_zero, List.set_cons_succ]
      refine takeX 2 30 (v := ?_) rfl rfl (by kernel_rfl) (by kernel_rfl) (by kernel_rfl) (by kernel_rfl) (by kernel_rfl) (fun _ _ _ _ h => h) hC (by rfl) ?_ ?_
      rotate_left
      · intro w hSw; (try dsimp only at hSw); go_simp; try (with_reducible rfl)
      simp only [List.setIfInBounds_toArray, List.set_cons_zero, List.set_cons_succ]
      refine takeX 3 31 (v := ?_) rfl rfl (by kernel_rfl) (by kernel_rfl) (by kernel_rfl) (by kernel_rfl) (by kernel_rfl) (fun _ _ _ _ h => h) hC (by rfl) ?_ ?_
      rotate_left
      · intro w hSw; (try dsimp only at hSw); go_simp; try (with_reducible rfl)
      simp only [List.setIfInBounds_toArray, List.set_cons_zero, List.set_cons_succ]
      refine takeX 4 32 (v := ?_) rfl rfl (by kernel_rfl) (by kernel_rfl) (by kernel_rfl) (by kernel_rfl) (by kernel_rfl) (fun _ _ _ _ h => h) hC (by rfl) ?_ ?_
      rotate_left
      · intro w hSw; (try dsimp only at hSw); go_simp; try (with_reducible rfl)
      simp only [List.setIfInBounds_toArray, List.set_cons_zero, List.set_cons_succ]
      refine oneT (i := 5) (by kernel_rfl) rfl (by rfl) (fun K hK => ?_)
      go_simp
      refine HI.out.mono ?_
      rintro e w3 ⟨rfl, hn⟩
      obtain ⟨FW2, hm3⟩ := HM3.out.made hn
      have HM4 := Lib.hid hm3
      have HE4 : Hid (Shc w3 u2 (.bool lf') (.bool tg') (.slice A' n' c') (.slice B' m' e') (.slice C' p' q')) := by
        obtain ⟨-, -, h2, -⟩ := hn
        exact HE3.out.at_ (h2.block u2 (Array.getElem?_eq_some_iff.1 HE3.out).1 HNU.out)
      refine hK.out _ _ (fun _ => And.intro HM4.out.five.cells.2.2.2.2 HE4.out.cells) ?_
      clear hK K hC hn hm3 HM3 HI HE3 HS3 HL3
      try simp only [Act.put, List.setIfInBounds_toArray, List.set_cons_zero, List.set_cons_succ]
      refine oneT (i := 6) (by kernel_rfl) rfl (by rfl) (fun K hK => ?_)
      go_simp
      obtain ⟨z, hz⟩ : ∃ z, Go.Proofs.Ytmnldlhpiapalaa.mk ((i0 + Sh.manyL (kids.take j) + x.many - 1 : Nat) : Int) 1 = z := ⟨_, rfl⟩
      have HZ := Lib.hid hz
      (try rw [hz])
      obtain ⟨V1, g1, hX, hg1, hbn, hgN⟩ : ∃ (X : World) (g : Nat), w3.alloc (.cells #[.int .i64 z] rfT) = X ∧ w3.heap.size = g ∧ Below w3.heap.size w3 X ∧ X.heap[g]? = some (.cells #[.int .i64 z] rfT (0, 0)) := ⟨_, _, rfl, rfl, below_new _ _, heap_alloc_new _ _⟩
      have HM5 := Lib.hid (HM4.out.below hbn)
      have HE5 := Lib.hid (HE4.out.below hbn)
      (try rw [hX]); (try rw [hg1])
      refine hK.out _ _ (fun _ => And.intro HM5.out.five.cells.2.2.2.2 HE5.out.cells) ?_
      clear hK K hbn hX hg1 HM4 hz
      try simp only [Act.put, List.setIfInBounds_toArray, List.set_cons_zero, List.set_cons_succ]
      refine oneT (i := 7) (by kernel_rfl) rfl (by rfl) (fun K hK => ?_)
      show Oper.wp _ _ _ _ _ _
      obtain ⟨A2, m2, c2, Z, happ, hz7, hf7, hRM⟩ := HM5.out.push hgN (by rw [refsL_len, List.length_take]; omega)
      have HRF : Hid (refsL (kids.take (j + 1)) i0 = refsL (kids.take j) i0 ++ [z]) := by
        show _ = _
        rw [HTK.out, refsL_append, ← HZ.out]
        rfl
      rw [← HRF.out] at hRM
      have HM6 := Lib.hid hRM
      refine wp_append_d (P := Try.prog) 35 _ _ _ _ rfl rfl _ _ rfl rfl happ ?_
      refine hK.out _ _ (fun h => absurd h (by decide)) ?_
      clear hK K happ hRM hgN HM5
      simp only [List.setIfInBounds_toArray, List.set_cons_zero, List.set_cons_succ]
      refine oneT (i := 8) (by kernel_rfl) rfl (by rfl) (fun K hK => ?_)
      go_simp
      refine hK.out _ _ (fun h => absurd h (by decide)) ?_
      clear hK K
      try simp only [Act.put, List.setIfInBounds_toArray, List.set_cons_zero, List.set_cons_succ]
      refine oneT (i := 9) (by kernel_rfl) rfl (by rfl) (fun K hK => ?_)
      go_simp
      refine hK.out _ _ (fun h => absurd h (by decide)) ?_
      clear hK K
      try simp only [Act.put, List.setIfInBounds_toArray, List.set_cons_zero, List.set_cons_succ]
      refine oneT (i := 10) (by kernel_rfl) rfl (by rfl) (fun K hK => ?_)
      go_simp
      obtain ⟨Y, hY⟩ : ∃ Y, Z.setCell ⟨u, 4, none⟩ (.slice A2 m2 c2) = Y := ⟨_, rfl⟩
      rw [hY] at HM6
      (try rw [hY])
      refine hK.out _ _ (fun h => absurd h (by decide)) ?_
      clear hK K hz7 hf7 hY
      try simp only [Act.put, List.setIfInBounds_toArray, List.set_cons_zero, List.set_cons_succ]
      refine doneT (by kernel_rfl) ?_
      go_wp2
      go_roundg (gk - 1)
      case measure => omega
      case rel => exact ⟨j + 1, _, FW2, by omega, by go_num, HM6.out⟩
end Go.Proofs.Ytmnldlhpiapalaa
