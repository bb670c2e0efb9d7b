/-
  What Path comes to within work.
-/
import Derived.Test.YtieebiblpcciaaaPt11
import Derived.Deep.Cut
namespace Go.Proofs.Ytieebiblpcciaaa
open Go.ChangeShapes Go.WideShapes Go.ChangeAt Go.RowKit
set_option linter.unusedVariables false
set_option linter.unusedSimpArgs false
set_option maxRecDepth 20000

def PLE (nds : List (Int × Nd)) (rk : Int → Nat) (M mo : Nat) (d : Wd) (R : Nat → Prop) (w : World) (a me : Nat) (wk : Value) (p : Nat) (o : Out (List Sp)) (l : List Sp) (T : Value) (t : Tr (List Sp)) (wr : World) (c : Cur) (s : Sig) : Prop := ∃ Y, PLI nds rk M mo d R w a me wk p o l T Y t wr c s
section
variable {β : Type} {nds : List (Int × Nd)} {rk : Int → Nat} {M mo D : Nat} {d : Wd} {R : Nat → Prop} {w : World} {a me : Nat} {wk : Value} {c : Cur} {s : Sig} {key : Int}
set_option maxHeartbeats 8000000 in
theorem path_touch {K : List Sp → Tr β} (hN : NdsOk nds) (hmo : mo ≤ 70000) (hD : D ≤ mo) (hen : (nds.lookup d.en).isSome = true ∧ rk d.en ≤ D) (h : Lv d R w a wk c s) (hP : SkI nds rk M mo s) (hpt : c.live = true → path ((tPath nds rk key (D + 1) d.en []).bind K) (c.zs.drop c.k) s) :
    Calls Try.prog 83 #[tkV a d.W me, .int .i64 key] w (PostM d R w a wk PaU (run (tPath nds rk key (D + 1) d.en []) c s)) := by
  have HR := Lib.hid h.lt
  obtain ⟨W, p, hW, hp, bb, tk, hsz⟩ := one_box w a d.W me
  obtain ⟨o, ho⟩ : ∃ o, run (tPath nds rk key (D + 1) d.en []) c s = o := ⟨_, rfl⟩
  rw [ho]
  have HL0 : Hid (PLE nds rk M mo d R w a me wk p o [] (.slice none 0 0) (tPath nds rk key (D + 1) d.en []) W c s) := by
    refine ⟨fun _ => False, ?_, SpL.nil _ _, fun b e => e.elim, hp⟩
    rw [← ho]
    exact BT.begin_ h bb (fun b e => by
      rcases e with (e | e) | e
      · exact .inl e
      · exact .inr (by omega)
      · exact e.elim) (fun b e => .inl e) tk hP
  have HMo : Hid (Calls Try.prog 112 #[ptr d.A] W fun e w' => e = .returned (.int .i64 (mo : Int)) ∧ W = w') := by
    obtain ⟨Y, h0⟩ := HL0.out
    obtain ⟨F, FW, T, h1, h2, -, -⟩ := h0.bt.lv.lv
    have := nxW_most h2
    rw [hP.most] at this
    exact this
  have g0 : W.cell? ⟨d.W, 0, none⟩ = some (ptr d.A) ∧ W.cell? ⟨d.W, 5, none⟩ = some (.int .i64 d.en) := by
    obtain ⟨Y, h0⟩ := HL0.out
    obtain ⟨F, FW, T, h1, h2, -, -⟩ := h0.bt.lv.lv
    exact ⟨h2.cells.1, h2.cells.2.2.2.2.2⟩
  obtain ⟨g0, g5⟩ := g0
  have HPT : Hid (c.live = true → path ((tPath nds rk key (D + 1) d.en []).bind K) (c.zs.drop c.k) s) := hpt
  have HEN := Lib.hid hen
  have HNO := Lib.hid hN
  have hwm : IntKind.i64.wrap ((mo : Int) + 1) = ((mo + 1 : Nat) : Int) := by rw [IntWalk.i64_in _ (by omega)]; omega
  obtain ⟨t0, t1, t2⟩ := tk
  clear h bb hsz hP ho hpt hen hN
  go_enter Try.func83, Try.ntmps83
  go_wp2_with fail
  (try rw [hW]); (try rw [hp])
  refine HMo.out.mono ?_
  rintro e w1 ⟨rfl, rfl⟩
  clear HMo
  go_wp2_with fail
  clear t0 t1 t2 g0 g5 hW hp
  go_loopg [28, 5, 6] (mo + 1) (fun gk iv tv rv wr => ∃ (j : Nat) (A1 : Option Addr) (c1 : Nat) (r : Int) (l : List Sp) (c' : Cur) (s' : Sig), j + gk = mo + 1 ∧ iv = .int .i64 (j : Int) ∧ tv = .slice A1 j c1 ∧ rv = .int .i64 r ∧ l.length = j ∧ Hid (PLE nds rk M mo d R w a me wk p o l (.slice A1 j c1) (tPath nds rk key (D + 1 - j) r l) wr c' s') ∧ Hid (c'.live = true → path ((tPath nds rk key (D + 1 - j) r l).bind K) (c'.zs.drop c'.k) s') ∧ Hid (∃ fu, D + 1 - j = fu + 1 ∧ (nds.lookup r).isSome = true ∧ rk r ≤ fu))
  case atStart => exact ⟨0, none, 0, d.en, [], c, s, by omega, rfl, rfl, rfl, rfl, HL0.out, HPT.out, D, rfl, HEN.out⟩
  case round =>
    clear HL0 HPT HEN
    obtain ⟨j, A1, c1, r, l, c2, s2, hj, rfl, rfl, rfl, hll, HH, HPT, HS⟩ := hrel
    obtain ⟨fu, hfu, hls, hrk⟩ := HS.out
    have i1 : (j : Int) < ((mo + 1 : Nat) : Int) := by omega
    have hkw : IntKind.i64.wrap ((j : Int) + 1) = (j : Int) + 1 := IntWalk.i64_in _ (by omega)
    obtain ⟨nd, hnd⟩ := Option.isSome_iff_exists.1 hls
    obtain ⟨Y, hLD⟩ := HH.out
    have hfu2 : D + 1 - (j + 1) = fu := by omega
    rw [hfu, tPath_at hnd hrk] at hLD
    have hmem := lookup_mem hnd
    have HD : Hid (Calls Try.prog 113 #[tkV a d.W me, .int .i64 r, .int .i64 key] wr fun e w' => ∃ v, e = .returned v ∧ LkU ⟨r, nd, wyOf nd key⟩ (fun b => wr.heap.size ≤ b ∧ b < w'.heap.size) w' v ∧ Below wr.heap.size wr w') := by
      obtain ⟨F, FW, T, h1, h2, -, -⟩ := hLD.bt.lv.lv
      obtain ⟨i, pp, hh, hnd2⟩ := hLD.bt.inv.stt.nod _ hmem
      have hnd3 : pp.nd = nd := hnd2
      have hok := HNO.out _ hmem
      rw [← hnd3]
      exact slook_walk h2 hLD.bt.inv.stt.len hLD.bt.inv.stt.cnt hh (by rw [hnd3]; exact hok.1) (by rw [hnd3]; exact hok.2)
    obtain ⟨t0, t1, t2⟩ := hLD.bt.tk
    have HLD := Lib.hid hLD
    have HND := Lib.hid hnd
    have HFU := Lib.hid hfu
    have HRK := Lib.hid hrk
    have HFU2 := Lib.hid hfu2
    clear HH hLD hls hfu hfu2 hmem HS hnd hrk
    go_wp2_with fail
    refine HD.out.mono ?_
    clear HD
    rintro e w2 ⟨v, rfl, ⟨pv, kv, zv, rfl, hNv⟩, b2⟩
    obtain ⟨P1, n1, q1, rfl⟩ := hNv.p.shape
    obtain ⟨P2, n2, q2, rfl⟩ := hNv.k.shape
    obtain ⟨P3, n3, q3, rfl⟩ := hNv.z.shape
    dsimp only
    obtain ⟨wy, hwy⟩ : ∃ wy : Nat, wyOf nd key = (wy : Int) := by
      unfold wyOf
      split
      · exact ⟨_, rfl⟩
      · exact ⟨0, rfl⟩
    have HWY := Lib.hid hwy
    rw [hwy] at HLD hNv ⊢
    obtain ⟨V, q, hV, hq, eV, bV, sV⟩ : ∃ (V : World) (q : Nat), w2.alloc (.cells #[.int .i64 r, .bool nd.inn, .bool nd.tag, .slice P1 n1 q1, .slice P2 n2 q2, .slice P3 n3 q3, .int .i64 (wy : Int)] stT) = V ∧ w2.heap.size = q ∧ Sev V q r nd.inn nd.tag (.slice P1 n1 q1) (.slice P2 n2 q2) (.slice P3 n3 q3) wy ∧ Below w2.heap.size w2 V ∧ V.heap.size = q + 1 := ⟨_, _, rfl, rfl, Sev.new _ rfl _ _ _ _ _ _ _, below_new _ _, by simp⟩
    obtain ⟨G, hG, bG, hgc, sG⟩ : ∃ G, V.alloc (.cells #[.int .i64 r, .bool nd.inn, .bool nd.tag, .slice P1 n1 q1, .slice P2 n2 q2, .slice P3 n3 q3, .int .i64 (wy : Int)] stT) = G ∧ Below V.heap.size V G ∧ G.heap[V.heap.size]? = some (.cells [.int .i64 r, .bool nd.inn, .bool nd.tag, .slice P1 n1 q1, .slice P2 n2 q2, .slice P3 n3 q3, .int .i64 (wy : Int)].toArray stT (0, 0)) ∧ G.heap.size = V.heap.size + 1 := ⟨_, rfl, below_new _ _, heap_alloc_new _ _, by simp⟩
    have bVG : Below w2.heap.size w2 G := bV.trans (bG.mono bV.size)
    have bRG : Below wr.heap.size wr G := b2.trans (bVG.mono b2.size)
    have b2s := b2.size
    have hx : SpR ⟨r, nd, (wy : Int)⟩ [.int .i64 r, .bool nd.inn, .bool nd.tag, .slice P1 n1 q1, .slice P2 n2 q2, .slice P3 n3 q3, .int .i64 (wy : Int)] (fun b => wr.heap.size ≤ b ∧ b < w2.heap.size) G := ⟨_, _, _, rfl, hNv.keep (fun b e _ => bVG.block b e.2) fun b e => e⟩
    obtain ⟨A', c', Z, Y', happ, hPL, hZq⟩ := HLD.out.push HR.out hx (fun b e => ⟨e.1, by omega⟩) bRG hgc (by omega) (q := q) ⟨by omega, by omega⟩
    rw [hll] at happ hPL
    have eZ : Sev Z q r nd.inn nd.tag (.slice P1 n1 q1) (.slice P2 n2 q2) (.slice P3 n3 q3) wy := (eV.below bG).at_ hZq
    obtain ⟨t0, t1, t2⟩ := hPL.bt.tk
    obtain ⟨y0, y1, y2, y3, y4, y5, y6⟩ := eZ.cells
    obtain ⟨x0, x1, x2, x3, x4, x5, x6⟩ := eV.cells
    have HPL := Lib.hid hPL
    rw [← hG] at happ
    have hgk := Lib.hid hll
    clear HLD hNv b2 bV bG hgc sG bVG bRG hx hZq eZ eV hPL hwy hG hll b2s sV
    cases hin : nd.inn with
    | false =>
      have HE : Hid (PostM d R w a wk PaU o (.returned (.slice A' (j + 1) c')) Z) := by
        have h := HPL.out
        rw [if_neg (by rw [hin]; simp)] at h
        exact h.fin HR.out
      rw [hin] at happ hV y1 x1
      clear HPL HPT hin
      go_upto_region 8 with fail
      (try rw [hV])
      clear hV hq
      go_wp2_with (at_builtin; refine Lib.wpList_append_run _ rfl _ _ _ _ rfl _ _ rfl rfl _ _ happ ?_)
      go_ret
      exact HE.out
    | true =>
      have hHW := sway_touch (me := me) (r := r) (i := wy) HPL.out.bt.inv.stt.win HPL.out.bt.lv
      have HW := Lib.hid hHW
      have HIN := Lib.hid hin
      rw [hin] at happ hV y1 x1
      clear hHW hin
      go_upto_region 8 with fail
      (try rw [hV])
      clear hV hq
      go_wp2_with (at_builtin; refine Lib.wpList_append_run _ rfl _ _ _ _ rfl _ _ rfl rfl _ _ happ ?_)
      refine HW.out.mono ?_
      clear HW happ
      intro e w3 hPm
      have hPL0 := HPL.out
      rw [if_pos HIN.out] at hPL0
      have hkw2 : kpP (SkI nds rk M mo) (tDo (gWay r (wy : Int))) := keeps_kpP (show (tDo (gWay r (wy : Int))).keeps (SkI nds rk M mo) from And.intro (fun s h => h.way _ _) fun _ => trivial)
      rcases BT.call (P := SkI nds rk M mo) (t := tDo (gWay r (wy : Int))) (o := o) (K := fun z => tPath nds rk key fu z (l ++ [⟨r, nd, (wy : Int)⟩])) hPL0.bt hkw2 hPm with ⟨z, c3, s3, rfl, hrun, hB, hKp⟩ | hx
      case inr => obtain ⟨rfl, hx⟩ := hx; exact ⟨rfl, .inr ⟨rfl, hx⟩⟩
      have HN : Hid (PLE nds rk M mo d R w a me wk p o (l ++ [⟨r, nd, (wy : Int)⟩]) (.slice A' (j + 1) c') (tPath nds rk key (D + 1 - (j + 1)) z (l ++ [⟨r, nd, (wy : Int)⟩])) w3 c3 s3) := by
        rw [HFU2.out]
        exact ⟨Y', hB, hPL0.sl.keep (fun b e => hKp.block b (.inr e)) (fun b e => e), hPL0.yn, hPL0.hp⟩
      have hdp : (s3 = s2 ∧ c3.live = true ∧ path ((tPath nds rk key fu z (l ++ [⟨r, nd, (wy : Int)⟩])).bind K) (c3.zs.drop c3.k) s3) ∨ (c3.live = false ∧ z = (gWay r (wy : Int) s2).1 ∧ s3 = (gWay r (wy : Int) s2).2) := by
        refine do_path (K := fun z => (tPath nds rk key fu z (l ++ [⟨r, nd, (wy : Int)⟩])).bind K) hrun fun hl => ?_
        have := HPT.out hl
        rw [HFU.out, tPath_at HND.out HRK.out, if_pos HIN.out, HWY.out, Tr.bind_bind] at this
        exact this
      have HP2 : Hid (c3.live = true → path ((tPath nds rk key (D + 1 - (j + 1)) z (l ++ [⟨r, nd, (wy : Int)⟩])).bind K) (c3.zs.drop c3.k) s3) := by
        rw [HFU2.out]
        intro hl
        rcases hdp with ⟨-, -, h⟩ | ⟨h, -, -⟩
        · exact h
        · rw [h] at hl; cases hl
      have HS2 : Hid (∃ fu, D + 1 - (j + 1) = fu + 1 ∧ (nds.lookup z).isSome = true ∧ rk z ≤ fu) := by
        rcases hdp with ⟨-, -, h⟩ | ⟨-, h, -⟩
        · obtain ⟨g, e1, e2, e3⟩ := path_some h
          exact ⟨g, by rw [HFU2.out]; exact e1, e2, e3⟩
        · have hn := hPL0.bt.inv.next HND.out HIN.out key
          rw [HWY.out, ← h] at hn
          have := HRK.out
          exact ⟨fu - 1, by rw [HFU2.out]; omega, hn.1, by omega⟩
      have hlen : (l ++ [(⟨r, nd, (wy : Int)⟩ : Sp)]).length = j + 1 := by rw [List.length_append, hgk.out]; rfl
      have HLE := Lib.hid hlen
      clear hkw2 hPm hPL0 hrun hB hKp hdp HPL HPT t0 t1 t2 y0 y1 y2 y3 y4 y5 y6 x0 x1 x2 x3 x4 x5 x6 hlen
      go_wp2
      go_roundg (gk - 1)
      case measure => omega
      case rel => exact ⟨j + 1, A', c', z, _, c3, s3, by obtain ⟨g, e1, -, -⟩ := HS2.out; omega, by go_num, rfl, rfl, HLE.out, HN.out, HP2.out, HS2.out⟩
end
end Go.Proofs.Ytieebiblpcciaaa
