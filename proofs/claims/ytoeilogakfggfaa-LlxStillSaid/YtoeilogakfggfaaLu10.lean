/-
  What llx's Loads comes to within work.
-/
import Derived.Test.YtoeilogakfggfaaLt10
import Derived.Test.YtoeilogakfggfaaLd10
import Derived.Deep.Cut
namespace Go.Proofs.Ytoeilogakfggfaa
open Go.ChangeShapes Go.WideShapes Go.ChangeAt Go.RowKit
set_option linter.unusedVariables false
set_option linter.unusedSimpArgs false
set_option maxRecDepth 20000

section
variable {nds : List (Int × Nd)} {M : Nat} {d : Wd} {R R' X X' : Nat → Prop} {w w' w0 wr w1 : World} {a st ph k me p q : Nat} {wk T : Value} {zs ws : List Int} {c : Cur} {s : Sig} {n r : Int} {nd : Nd} {t : Tr (List Sn × Bool)} {o : Out (List Sn × Bool)} {e : Ending} {l : List Sn} {Y : Nat → Prop}
set_option maxHeartbeats 8000000 in
theorem loads_touch {A : Option Addr} {m c0 : Nat} {prs : List (Int × Nd)} (hM : M ≤ 1000) (hx : ∀ x ∈ prs, x ∈ nds ∧ x.2.small) (hl : prs.length ≤ 100) (hs : Sl w A m c0 (prs.map Prod.fst)) (hA : ∀ ad, A = some ad → R ad.block) (h : Lv d R w a wk c s) (hP : Stt nds M s) :
    Calls Try.prog 22 #[tkV a d.W me, .slice A m c0] w (PostM d R w a wk LsU (run (tLoads [] prs) c s)) := by
  have HR := Lib.hid h.lt
  obtain ⟨W, p, hW, hp, bb, tk, hsz⟩ := one_box w a d.W me
  obtain ⟨o, ho⟩ : ∃ o, run (tLoads [] prs) c s = o := ⟨_, rfl⟩
  rw [ho]
  have HB : Hid (BT (Stt nds M) d R (fun b => R b ∨ b = p) w a me wk p o (tLoads [] prs) W c s) := by
    show BT _ _ _ _ _ _ _ _ _ _ _ _ _ _
    rw [← ho]
    exact BT.begin_ h bb (fun b e => e.imp id fun e => by omega) (fun b e => e) tk hP
  have HN := Lib.hid (isNone_walk a d.W me W)
  have HPP := Lib.hid hp
  have hml : m = prs.length := by have := hs.len; simpa using this
  have HSL := Lib.hid hs
  have HX := Lib.hid hx
  have HAD := Lib.hid hA
  have HW := Lib.hid bb
  obtain ⟨t0, t1, t2⟩ := tk
  clear h bb hsz hP ho hs hx hA
  go_enter Try.func22, Try.ntmps22
  go_wp2_with fail
  (try rw [hW])
  refine HN.out.mono ?_
  rintro e w1 ⟨rfl, b1⟩
  have HL : Hid (LDI nds M d R w a me wk p o [] (.slice none 0 0) (fun _ => False) (tLoads [] prs) w1 c s) := by
    have hB := HB.out.below b1
    exact ⟨hB.mono (fun b e => e.elim id fun e => e.elim) fun b e => .inl e, SnL.nil _ _, fun b e => e.elim, HPP.out⟩
  have HK1 : Hid (Kp R w w1) := HL.out.bt.kp
  clear HN HB b1 t0 t1 t2 hW hp
  have HL0 : Hid (LDE nds M d R w a me wk p o [] (.slice none 0 0) (tLoads [] (prs.drop 0)) w1 c s) := ⟨_, HL.out⟩
  clear HL HK1
  have HML := Lib.hid hml
  go_wp2_with fail
  go_loopg [15, 6] m (fun gk iv tv wr => ∃ (j : Nat) (A1 : Option Addr) (c1 : Nat) (l : List Sn) (c' : Cur) (s' : Sig), j + gk = m ∧ iv = .int .i64 (j : Int) ∧ tv = .slice A1 j c1 ∧ l.length = j ∧ Hid (LDE nds M d R w a me wk p o l (.slice A1 j c1) (tLoads l (prs.drop j)) wr c' s'))
  case atStart => exact ⟨0, none, 0, [], c, s, by omega, rfl, rfl, rfl, HL0.out⟩
  case round =>
    clear HL0
    obtain ⟨j, A1, c1, l, c2, s2, hj, rfl, rfl, hll, HH⟩ := hrel
    by_cases hlt : j < m
    case neg =>
      have i1 : ¬ ((j : Int) < (m : Int)) := by omega
      have HE : Hid (PostM d R w a wk LsU o (.returned (.tuple #[.slice A1 j c1, .bool true])) wr) := by
        obtain ⟨Y, h⟩ := HH.out
        rw [List.drop_eq_nil_of_le (by have := HML.out; omega)] at h
        exact h.fin HR.out
      clear HH
      go_wp2
      go_ret2
      exact HE.out
    have i1 : (j : Int) < (m : Int) := by omega
    have i0 : (0 : Int) ≤ (j : Int) := by omega
    have hkw : IntKind.i64.wrap ((j : Int) + 1) = (j : Int) + 1 := IntWalk.i64_in _ (by omega)
    have hjl : j < prs.length := by omega
    obtain ⟨x, hxe⟩ : ∃ x, prs[j] = x := ⟨_, rfl⟩
    have hxm := HX.out x (by rw [← hxe]; exact List.getElem_mem hjl)
    obtain ⟨r, nd⟩ := x
    obtain ⟨Y, hLD⟩ := HH.out
    have hdr : prs.drop j = (r, nd) :: prs.drop (j + 1) := by rw [List.drop_eq_getElem_cons hjl, hxe]
    rw [hdr] at hLD
    have hslw : Sl wr A m c0 (prs.map Prod.fst) := HSL.out.keepAt fun ad e _ => hLD.bt.kp.block _ (HAD.out ad e)
    obtain ⟨ba, off, hAe, hbl, hcx⟩ := hslw.at_ (k := j) (by simpa using hjl)
    have hc : wr.cell? ⟨ba, off + j, none⟩ = some (.int .i64 r) := by
      have e : (prs.map Prod.fst)[j]'(by simpa using hjl) = r := by simp [hxe]
      rw [e] at hcx
      exact hcx
    subst hAe
    have HD := Lib.hid (load_touch (me := me) hxm.1 hxm.2 hM hLD.bt.lv hLD.bt.inv)
    obtain ⟨t0, t1, t2⟩ := hLD.bt.tk
    have HLD : Hid (LDI nds M d R w a me wk p o l (.slice A1 j c1) Y ((tLoad r nd).bind fun y => if y.2 = 0 then tLoads (l ++ [y.1]) (prs.drop (j + 1)) else .ret ([], false)) wr c2 s2) := hLD
    clear HH hLD hslw hcx hbl hdr hxe hxm hjl
    go_wp2_with fail
    refine HD.out.mono ?_
    clear HD t0 t1 t2 hc
    intro e w2 hPm
    rcases BT.callM (P := Stt nds M) (t := tLoad r nd) (o := o) (K := fun y : Sn × Int => (if y.2 = 0 then tLoads (l ++ [y.1]) (prs.drop (j + 1)) else .ret ([], false) : Tr (List Sn × Bool))) HLD.out.bt (run_kpL (kl_load r nd)) hPm with ⟨⟨x, status⟩, c3, s3, v, Y2, rfl, hrun, ⟨u, hv, hu⟩, hB, hKp, hYn⟩ | hx
    case inr => obtain ⟨rfl, hx⟩ := hx; exact ⟨rfl, .inr ⟨rfl, hx⟩⟩
    have hok : LdOk nd (x, status) := run_rets (rets_load r nd) hrun
    have hv : v = .tuple #[u, .int .u8 status] := hv
    have hu : SnU x Y2 w2 u := hu
    obtain ⟨pv, kv, zv, wv, rfl, ⟨P1, n1, q1, rfl⟩, ⟨P2, n2, q2, rfl⟩, ⟨P3, n3, q3, rfl⟩, y4, y5⟩ := hu
    obtain ⟨A4, n4, q4, rfl⟩ := y4.shape
    subst hv
    have hpl : p < wr.heap.size := HLD.out.bt.lv.lt p (HLD.out.bt.sub p (.inr rfl))
    have hL2 : LDI nds M d R w a me wk p o l (.slice A1 j c1) (fun b => Y b ∨ Y2 b) (if status = 0 then tLoads (l ++ [x]) (prs.drop (j + 1)) else .ret ([], false)) w2 c3 s3 :=
      ⟨hB.mono (fun b e => by
        rcases e with e | e | e
        · exact .inl (.inl e)
        · exact .inl (.inr e)
        · exact .inr e) (fun b e => .inl e), HLD.out.sl.keep (fun b e => hKp.block b (.inr e)) (fun b e => .inl e), fun b e => e.elim (HLD.out.yn b) fun e => by have := hYn b e; omega, HLD.out.hp⟩
    obtain ⟨Z, q, hZ, hq, e2, bZ, sZ⟩ : ∃ (Z : World) (q : Nat), w2.alloc (.cells #[.int .i64 0, .int .i64 0, .bool false, .bool false, .slice none 0 0, .slice none 0 0, .slice none 0 0, .slice none 0 0] snT) = Z ∧ w2.heap.size = q ∧ Eig Z q 0 0 false false (.slice none 0 0) (.slice none 0 0) (.slice none 0 0) (.slice none 0 0) ∧ Below w2.heap.size w2 Z ∧ Z.heap.size = q + 1 := ⟨_, _, rfl, rfl, Eig.new _ rfl _ _ _ _ _ _ _ _, below_new _ _, by simp⟩
    have hO := only_put8 Z q x.rf x.inf x.nd.inn x.nd.tag (.slice P1 n1 q1) (.slice P2 n2 q2) (.slice P3 n3 q3) (.slice A4 n4 q4)
    have b8 : Below w2.heap.size Z (put8 Z q x.rf x.inf x.nd.inn x.nd.tag (.slice P1 n1 q1) (.slice P2 n2 q2) (.slice P3 n3 q3) (.slice A4 n4 q4)) := hO.below (fun b e => by omega) (by omega)
    have e3 : Eig (put8 Z q x.rf x.inf x.nd.inn x.nd.tag (.slice P1 n1 q1) (.slice P2 n2 q2) (.slice P3 n3 q3) (.slice A4 n4 q4)) q x.rf x.inf x.nd.inn x.nd.tag (.slice P1 n1 q1) (.slice P2 n2 q2) (.slice P3 n3 q3) (.slice A4 n4 q4) := e2.put
    obtain ⟨V, hV⟩ : ∃ V, put8 Z q x.rf x.inf x.nd.inn x.nd.tag (.slice P1 n1 q1) (.slice P2 n2 q2) (.slice P3 n3 q3) (.slice A4 n4 q4) = V := ⟨_, rfl⟩
    rw [hV] at b8 e3
    have bV : Below w2.heap.size w2 V := bZ.trans b8
    have HL3 := Lib.hid (hL2.below bV)
    obtain ⟨x0, x1, x2, x3, x4, x5, x6, x7⟩ := e2.cells
    obtain ⟨f0, f1, f2, f3, f4, f5, f6, f7⟩ := e2.frees
    obtain ⟨u0, u1, u2, u3, u4, u5, u6, u7⟩ := e3.cells
    by_cases h0 : status = 0
    · subst h0
      have bG := below_new V (.cells #[.int .i64 x.rf, .int .i64 x.inf, .bool x.nd.inn, .bool x.nd.tag, .slice P1 n1 q1, .slice P2 n2 q2, .slice P3 n3 q3, .slice A4 n4 q4] snT)
      have hgc : (V.alloc (.cells #[.int .i64 x.rf, .int .i64 x.inf, .bool x.nd.inn, .bool x.nd.tag, .slice P1 n1 q1, .slice P2 n2 q2, .slice P3 n3 q3, .slice A4 n4 q4] snT)).heap[V.heap.size]? = some (.cells [.int .i64 x.rf, .int .i64 x.inf, .bool x.nd.inn, .bool x.nd.tag, .slice P1 n1 q1, .slice P2 n2 q2, .slice P3 n3 q3, .slice A4 n4 q4].toArray snT (0, 0)) := heap_alloc_new _ _
      have hL4 := HL3.out.below bG
      have hY2 : ∀ b, Y2 b → b < w2.heap.size := fun b e => hB.lv.lt b (.inr e)
      have hbG := bV.trans (bG.mono bV.size)
      have hSR : SnR x [.int .i64 x.rf, .int .i64 x.inf, .bool x.nd.inn, .bool x.nd.tag, .slice P1 n1 q1, .slice P2 n2 q2, .slice P3 n3 q3, .slice A4 n4 q4] (fun b => Y b ∨ Y2 b) (V.alloc (.cells #[.int .i64 x.rf, .int .i64 x.inf, .bool x.nd.inn, .bool x.nd.tag, .slice P1 n1 q1, .slice P2 n2 q2, .slice P3 n3 q3, .slice A4 n4 q4] snT)) :=
        ⟨_, _, _, _, rfl, ⟨_, _, _, rfl⟩, ⟨_, _, _, rfl⟩, ⟨_, _, _, rfl⟩, own_at y4 fun b e => hbG.block b (hY2 b (y5 b e)), fun b e => .inr (y5 b e)⟩
      obtain ⟨A', c', Zf, happ, hN⟩ := hL4.push HR.out hSR hgc (by omega)
      rw [hll] at happ hN
      have HN : Hid (LDE nds M d R w a me wk p o (l ++ [x]) (.slice A' (j + 1) c') (tLoads (l ++ [x]) (prs.drop (j + 1))) Zf c3 s3) := hN
      clear hL2 hL4 HL3 hO b8 e2 e3 bZ bV bG hbG hSR hN hY2 y4 y5 hB hKp hYn hrun hok hPm HLD hgc sZ
      go_upto_region 10 with fail
      (try rw [hZ]); (try rw [hq]); (try rw [hV])
      clear x0 x1 x2 x3 x4 x5 x6 x7 f0 f1 f2 f3 f4 f5 f6 f7 hZ hq hV
      go_wp2_with (at_builtin; refine Lib.wpList_append_run _ rfl _ _ _ _ rfl _ _ rfl rfl _ _ happ ?_)
      go_roundg (gk - 1)
      case measure => omega
      case rel => exact ⟨j + 1, A', c', l ++ [x], c3, s3, by omega, by go_num, rfl, by simp [hll], HN.out⟩
    · have HE : Hid (PostM d R w a wk LsU o (.returned (.tuple #[.slice none 0 0, .bool false])) V) := by
        have h := HL3.out
        rw [if_neg h0] at h
        exact h.no
      have hne : (status == 0) = false := by simpa using h0
      have hne2 : ¬ status = 0 := h0
      clear hL2 HL3 hO b8 e2 e3 bZ bV y4 y5 hB hKp hYn hrun hok hPm HLD sZ
      go_wp2_with fail
      (try rw [hZ]); (try rw [hq]); (try rw [hV])
      go_wp2
      go_ret2
      exact HE.out
end
end Go.Proofs.Ytoeilogakfggfaa
