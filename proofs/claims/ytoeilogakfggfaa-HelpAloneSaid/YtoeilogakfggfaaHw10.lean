/-
  The law HelpAlone: its regions 45 to 57.
-/
import Derived.Test.YtoeilogakfggfaaHs10
import Derived.Deep.CutBlock
import Derived.Deep.DeepCutAuto
import Derived.Deep.LoopGhost
namespace Go.Proofs.Ytoeilogakfggfaa
open Go.ChangeShapes Go.WideShapes Go.ChangeAt Go.RowKit
set_option linter.unusedVariables false
set_option linter.unusedSimpArgs false
set_option maxRecDepth 20000

set_option maxHeartbeats 16000000 in
theorem ha45_walk {w v1 wc : World} {d : Wd} {g c nb q mb mI cN cI cO kk : Nat} {AN AI AO : Option Addr} {on : List Nat} {is : List Int} {wy od : Int} {rr : Rc} {f : Nat → Ns} {all : Bool} (HB1 : Hid (Below w.heap.size w v1)) (HI : Hid (HAi on is mI kk wy od rr f)) {tc : Nat} {st : Int} {g1 : Nat → Ns} {x0 x1 : Int} {fb : Nat} {set dn : Bool} {sl0 sl1 sl2 sl3 sl4 sl6 sl7 sl8 sl9 sl10 sl11 sl12 sl16 sl17 sl20 sl21 sl22 sl24 sl30 sl31 sl33 sl34 sl35 sl36 sl37 sl38 sl39 sl40 sl41 sl42 sl43 sl44 sl45 sl46 sl47 sl48 sl49 sl50 sl51 sl52 sl53 sl54 sl55 sl56 sl57 sl58 sl59 sl60 sl61 sl62 sl63 sl64 sl65 sl66 sl67 sl68 sl69 sl70 sl71 sl72 sl73 sl74 sl75 sl76 sl77 sl78 sl79 sl80 sl81 sl82 sl83 sl84 sl85 sl86 sl87 sl88 sl89 sl90 sl91 sl92 sl93 sl94 sl95 sl96 sl97 sl98 sl99 sl100 sl101 sl102 sl103 sl104 sl105 sl106 sl107 sl108 sl109 sl110 sl111 sl112 sl113 sl114 sl115 sl116 sl117 sl118 sl119 sl120 sl121 sl122 sl123 sl124 sl125 sl126 sl127 sl128 sl129 sl130 sl131 sl132 sl133 sl134 sl135 sl136 sl137 sl138 sl139 sl140 sl141 sl142 sl143 sl144 sl145 sl146 sl147 sl148 sl149 sl150 sl151 sl152 sl153 sl154 sl155 sl156 sl157 sl158 sl159 sl160 sl161 sl162 sl163 sl164 sl165 sl166 sl167 sl168 sl169 sl170 sl171 sl172 sl173 sl174 sl175 sl176 sl177 sl178 sl179 sl180 sl181 sl182 sl183 sl184 sl185 sl186 sl187 sl188 sl189 sl190 sl191 sl192 sl193 sl194 sl195 sl196 sl197 sl198 sl199 sl200 sl201 sl202 sl203 sl204 sl205 sl206 sl207 sl208 sl209 sl210 sl211 sl212 sl213 sl214 sl215 sl216 sl217 sl218 sl219 sl220 sl221 sl222 sl223 sl224 sl225 sl226 sl227 sl228 sl229 sl230 sl231 sl232 sl233 sl234 sl235 sl236 sl237 sl238 sl239 sl240 sl241 sl242 sl243 sl244 sl245 sl246 sl247 sl248 sl249 sl250 sl251 sl252 sl253 sl254 sl255 sl256 sl257 sl258 sl259 sl260 sl261 sl262 sl263 sl264 sl265 sl266 sl267 sl268 sl269 sl270 sl271 sl272 sl273 sl274 sl275 sl276 sl277 sl278 sl279 sl280 sl281 sl282 sl283 sl284 sl285 sl286 sl287 sl288 sl289 sl290 sl291 sl292 sl293 sl294 sl295 sl296 sl297 sl298 sl299 sl300 sl301 sl302 sl303 sl304 sl305 sl306 sl307 sl308 sl309 sl310 sl311 sl312 sl313 sl314 sl315 sl316 sl317 sl318 sl319 sl320 sl321 sl322 sl323 sl324 sl325 sl326 sl327 sl328 sl329 sl330 sl331 sl332 sl333 sl334 sl335 sl336 sl337 sl338 sl339 sl340 sl341 sl342 sl343 sl344 sl345 sl346 sl347 sl348 sl349 sl350 sl351 sl352 sl353 sl354 sl355 sl356 sl357 sl358 sl359 sl360 sl361 sl362 sl363 sl364 sl365 sl366 sl367 sl368 sl369 sl370 sl371 sl372 : Value}
    (HL3 : Hid (L3 on is f all g1 tc st dn set)) (HN : Hid (FirstI on x0 x1))
    (HX : Hid (Ob v1 d (s1 1 5 f rr 1 all) wc [.row (.slice (some ⟨g, 0, none⟩) 5 c) rfT (refN 5), .box nb i6T (infC g1), .box q rcT #[.slice AN mI cN, .slice AI mI cI, .int .i64 (kk : Int), .int .i64 wy, .int .i64 od, .int .i64 99], .row (.slice AO mI cO) inT (ints2 on), .row (.slice AN mI cN) rfT (on.map rfN), .row (.slice AI mI cI) i6T is, .box mb 4 (mrkC f), .box fb arT #[.int .i64 x0, .int .i64 x1]])) :
    Code.wp Try.prog ha45 (bodyPost Try.prog Try.f3 (fun e w' => e = .returned (.bool true) ∧ Below w.heap.size w w')) ⟨(sl0 :: sl1 :: sl2 :: sl3 :: sl4 :: .bool all :: sl6 :: sl7 :: sl8 :: sl9 :: sl10 :: sl11 :: sl12 :: ptr d.W :: .slice (some ⟨g, 0, none⟩) 5 c :: .slice (some ⟨nb, 0, none⟩) 5 5 :: sl16 :: sl17 :: .pointer (some ⟨q, 0, none⟩) :: .slice AO mI cO :: sl20 :: sl21 :: sl22 :: .int .i64 1 :: sl24 :: .int .i64 (tc : Int) :: .int .u8 st :: .bool dn :: .slice (some ⟨mb, 0, none⟩) 5 5 :: .bool set :: sl30 :: sl31 :: .pointer (some ⟨fb, 0, none⟩) :: sl33 :: sl34 :: sl35 :: sl36 :: sl37 :: sl38 :: sl39 :: sl40 :: sl41 :: sl42 :: sl43 :: sl44 :: sl45 :: sl46 :: sl47 :: sl48 :: sl49 :: sl50 :: sl51 :: sl52 :: sl53 :: sl54 :: sl55 :: sl56 :: sl57 :: sl58 :: sl59 :: sl60 :: sl61 :: sl62 :: sl63 :: sl64 :: sl65 :: sl66 :: sl67 :: sl68 :: sl69 :: sl70 :: sl71 :: sl72 :: sl73 :: sl74 :: sl75 :: sl76 :: sl77 :: sl78 :: sl79 :: sl80 :: sl81 :: sl82 :: sl83 :: sl84 :: sl85 :: sl86 :: sl87 :: sl88 :: sl89 :: sl90 :: sl91 :: sl92 :: sl93 :: sl94 :: sl95 :: sl96 :: sl97 :: sl98 :: sl99 :: sl100 :: sl101 :: sl102 :: sl103 :: sl104 :: sl105 :: sl106 :: sl107 :: sl108 :: sl109 :: sl110 :: sl111 :: sl112 :: sl113 :: sl114 :: sl115 :: sl116 :: sl117 :: sl118 :: sl119 :: sl120 :: sl121 :: sl122 :: sl123 :: sl124 :: sl125 :: sl126 :: sl127 :: sl128 :: sl129 :: sl130 :: sl131 :: sl132 :: sl133 :: sl134 :: sl135 :: sl136 :: sl137 :: sl138 :: sl139 :: sl140 :: sl141 :: sl142 :: sl143 :: sl144 :: sl145 :: sl146 :: sl147 :: sl148 :: sl149 :: sl150 :: sl151 :: sl152 :: sl153 :: sl154 :: sl155 :: sl156 :: sl157 :: sl158 :: sl159 :: sl160 :: sl161 :: sl162 :: sl163 :: sl164 :: sl165 :: sl166 :: sl167 :: sl168 :: sl169 :: sl170 :: sl171 :: sl172 :: sl173 :: sl174 :: sl175 :: sl176 :: sl177 :: sl178 :: sl179 :: sl180 :: sl181 :: sl182 :: sl183 :: sl184 :: sl185 :: sl186 :: sl187 :: sl188 :: sl189 :: sl190 :: sl191 :: sl192 :: sl193 :: sl194 :: sl195 :: sl196 :: sl197 :: sl198 :: sl199 :: sl200 :: sl201 :: sl202 :: sl203 :: sl204 :: sl205 :: sl206 :: sl207 :: sl208 :: sl209 :: sl210 :: sl211 :: sl212 :: sl213 :: sl214 :: sl215 :: sl216 :: sl217 :: sl218 :: sl219 :: sl220 :: sl221 :: sl222 :: sl223 :: sl224 :: sl225 :: sl226 :: sl227 :: sl228 :: sl229 :: sl230 :: sl231 :: sl232 :: sl233 :: sl234 :: sl235 :: sl236 :: sl237 :: sl238 :: sl239 :: sl240 :: sl241 :: sl242 :: sl243 :: sl244 :: sl245 :: sl246 :: sl247 :: sl248 :: sl249 :: sl250 :: sl251 :: sl252 :: sl253 :: sl254 :: sl255 :: sl256 :: sl257 :: sl258 :: sl259 :: sl260 :: sl261 :: sl262 :: sl263 :: sl264 :: sl265 :: sl266 :: sl267 :: sl268 :: sl269 :: sl270 :: sl271 :: sl272 :: sl273 :: sl274 :: sl275 :: sl276 :: sl277 :: sl278 :: sl279 :: sl280 :: sl281 :: sl282 :: sl283 :: sl284 :: sl285 :: sl286 :: sl287 :: sl288 :: sl289 :: sl290 :: sl291 :: sl292 :: sl293 :: sl294 :: sl295 :: sl296 :: sl297 :: sl298 :: sl299 :: sl300 :: sl301 :: sl302 :: sl303 :: sl304 :: sl305 :: sl306 :: sl307 :: sl308 :: sl309 :: sl310 :: sl311 :: sl312 :: sl313 :: sl314 :: sl315 :: sl316 :: sl317 :: sl318 :: sl319 :: sl320 :: sl321 :: sl322 :: sl323 :: sl324 :: sl325 :: sl326 :: sl327 :: sl328 :: sl329 :: sl330 :: sl331 :: sl332 :: sl333 :: sl334 :: sl335 :: sl336 :: sl337 :: sl338 :: sl339 :: sl340 :: sl341 :: sl342 :: sl343 :: sl344 :: sl345 :: sl346 :: sl347 :: sl348 :: sl349 :: sl350 :: sl351 :: sl352 :: sl353 :: sl354 :: sl355 :: sl356 :: sl357 :: sl358 :: sl359 :: sl360 :: sl361 :: sl362 :: sl363 :: sl364 :: sl365 :: sl366 :: sl367 :: sl368 :: sl369 :: sl370 :: sl371 :: sl372 :: []).toArray, []⟩ wc := by
  conv => arg 2; whnf
  go_upto_if 209 with fail
  go_cut [25] (fun tv wx => ∃ (F : Nat → Ns) (y0 y1 : Int) (tc2 : Nat), tv = .int .i64 (tc2 : Int) ∧ Hid (oHelp 1 5 on is (kk : Int) wy od 99 rr 1 all (oTk 1 (on.zip is) f) = (dn, s1 1 5 F rr st dn, tc2)) ∧ Hid (FirstF on F y0 y1) ∧ Hid (Ob v1 d (s1 1 5 f rr 1 all) wx [.row (.slice (some ⟨g, 0, none⟩) 5 c) rfT (refN 5), .box nb i6T (infC F), .box q rcT #[.slice AN mI cN, .slice AI mI cI, .int .i64 (kk : Int), .int .i64 wy, .int .i64 od, .int .i64 99], .row (.slice AO mI cO) inT (ints2 on), .row (.slice AN mI cN) rfT (on.map rfN), .row (.slice AI mI cI) i6T is, .box mb 4 (mrkC F), .box fb arT #[.int .i64 y0, .int .i64 y1]]))
  case rest =>
    as_aux_lemma =>
    obtain ⟨F, y0, y1, tc2, rfl, HO, HF, HX2⟩ := hcut
    have HD : Hid (dn = (all || !set)) := by obtain ⟨tq, -, -, h, -⟩ := HL3.out; exact h
    rename_i K1 hK1
    clear HX HL3 HN
    refine hK1 _ _ ?_
    clear hK1 K1
    exact ha58_walk HB1 HI HX2 HO HD HF
  case first =>
    as_aux_lemma =>
    cases set with
    | true =>
      as_aux_lemma =>
      have HE : Hid (oHelp 1 5 on is (kk : Int) wy od 99 rr 1 all (oTk 1 (on.zip is) f) = (dn, s1 1 5 g1 rr st dn, tc) ∧ FirstF on g1 x0 x1 ∧ mrkC f = mrkC g1) := HL3.out.set_ HI.out HN.out
      have HX2 : Hid (Ob v1 d (s1 1 5 f rr 1 all) wc [.row (.slice (some ⟨g, 0, none⟩) 5 c) rfT (refN 5), .box nb i6T (infC g1), .box q rcT #[.slice AN mI cN, .slice AI mI cI, .int .i64 (kk : Int), .int .i64 wy, .int .i64 od, .int .i64 99], .row (.slice AO mI cO) inT (ints2 on), .row (.slice AN mI cN) rfT (on.map rfN), .row (.slice AI mI cI) i6T is, .box mb 4 (mrkC g1), .box fb arT #[.int .i64 x0, .int .i64 x1]]) := by show Ob _ _ _ _ _; rw [← HE.out.2.2]; exact HX.out
      clear HX HL3 HN HI
      go_wp2
      go_meet
      case rel => exact ⟨g1, x0, x1, tc, rfl, Lib.hid HE.out.1, Lib.hid HE.out.2.1, HX2⟩
    | false =>
      as_aux_lemma =>
      obtain ⟨hmk, ht14⟩ := HL3.out.mrk
      obtain ⟨T2, hT2⟩ : ∃ T2 : Nat, tc + 2 = T2 := ⟨_, rfl⟩
      have w2 : IntKind.i64.wrap ((tc : Int) + 2) = (T2 : Int) := by rw [IntWalk.i64_in _ (by omega)]; omega
      have HT2 : Hid (tc + 2 = T2 ∧ T2 ≤ 16) := by show _ ∧ _; omega
      have HX1 : Hid (Ob v1 d (s1 1 5 f rr 1 all) wc [.row (.slice (some ⟨g, 0, none⟩) 5 c) rfT (refN 5), .box nb i6T (infC g1), .box q rcT #[.slice AN mI cN, .slice AI mI cI, .int .i64 (kk : Int), .int .i64 wy, .int .i64 od, .int .i64 99], .row (.slice AO mI cO) inT (ints2 on), .row (.slice AN mI cN) rfT (on.map rfN), .row (.slice AI mI cI) i6T is, .box mb 4 (mrkC g1), .box fb arT #[.int .i64 x0, .int .i64 x1]]) := by show Ob _ _ _ _ _; rw [← hmk]; exact HX.out
      clear HX hmk ht14 hT2
      go_wp2_with fail
      clear w2
      go_loopg [25, 214] mI (fun gk tv iv wr => ∃ (j tn : Nat) (m : Nat → Ns), j + gk = mI ∧ tv = .int .i64 (tn : Int) ∧ iv = .int .i64 (j : Int) ∧ tn = T2 + (j - kk) ∧ Hid (MkI on kk g1 m j) ∧ Hid (Ob v1 d (s1 1 5 f rr 1 all) wr [.row (.slice (some ⟨g, 0, none⟩) 5 c) rfT (refN 5), .box nb i6T (infC g1), .box q rcT #[.slice AN mI cN, .slice AI mI cI, .int .i64 (kk : Int), .int .i64 wy, .int .i64 od, .int .i64 99], .row (.slice AO mI cO) inT (ints2 on), .row (.slice AN mI cN) rfT (on.map rfN), .row (.slice AI mI cI) i6T is, .box mb 4 (mrkC m), .box fb arT #[.int .i64 x0, .int .i64 x1]]))
      case atStart => exact ⟨0, T2, g1, by omega, rfl, rfl, by omega, Lib.hid MkI.begin_, HX1⟩
      case round =>
        clear HX1
        obtain ⟨j, tn, m, hj, rfl, rfl, htn, HM, HH⟩ := hrel
        have h6 := HI.out.six
        by_cases hlt : j < mI
        case pos =>
          as_aux_lemma =>
          have i1 : (j : Int) < (mI : Int) := by omega
          have i0 : (0 : Int) ≤ (j : Int) := by omega
          have hkw : IntKind.i64.wrap ((j : Int) + 1) = (j : Int) + 1 := IntWalk.i64_in _ (by omega)
          obtain ⟨x, hx⟩ : ∃ x, on[j]? = some x := ⟨_, List.getElem?_eq_getElem (by rw [HI.out.l1]; exact hlt)⟩
          have hx5 : x < 5 := HI.out.five x (List.mem_of_getElem? hx)
          have j0 : (0 : Int) ≤ (x : Int) := by omega
          have j5 : (x : Int) < 5 := by omega
          obtain ⟨go, eO, cO0, -⟩ := HH.out.num (i := 3) (j := j) (z := (x : Int)) rfl (ints2_at hx)
          subst eO
          have cK := HH.out.cell (i := 2) (j := 2) rfl rfl
          have hT := HT2.out.2
          have HJ : Hid (j + gk = mI ∧ tn = T2 + (j - kk) ∧ mI ≤ 6) := ⟨hj, htn, h6⟩
          by_cases e : kk ≤ j
          case pos =>
            as_aux_lemma =>
            have e1 : (kk : Int) ≤ (j : Int) := by omega
            obtain ⟨t1, ht1⟩ : ∃ t1 : Nat, tn + 1 = t1 := ⟨_, rfl⟩
            have w1 : IntKind.i64.wrap ((tn : Int) + 1) = (t1 : Int) := by rw [IntWalk.i64_in _ (by omega)]; omega
            have HT1 := Lib.hid ht1
            have HMM := Lib.hid (HM.out.mark e hx)
            have cM := HH.out.cell (i := 6) rfl (mrkC_at m hx5)
            have fM := HH.out.free (i := 6) rfl x
            have HS : Hid (Ob v1 d (s1 1 5 f rr 1 all) (wr.setCell ⟨mb, x, none⟩ (.bool true)) [.row (.slice (some ⟨g, 0, none⟩) 5 c) rfT (refN 5), .box nb i6T (infC g1), .box q rcT #[.slice AN mI cN, .slice AI mI cI, .int .i64 (kk : Int), .int .i64 wy, .int .i64 od, .int .i64 99], .row (.slice (some ⟨go, 0, none⟩) mI cO) inT (ints2 on), .row (.slice AN mI cN) rfT (on.map rfN), .row (.slice AI mI cI) i6T is, .box mb 4 (mrkC (upd m x { m x with mark := true })), .box fb arT #[.int .i64 x0, .int .i64 x1]]) := by
              have := HH.out.set (i := 6) rfl x (.bool true)
              have e := mrkC_set m hx5 { m x with mark := true }
              show Ob _ _ _ _ _
              rw [← e]
              exact this
            clear HH HM ht1 hx htn h6 hT
            go_wp2
            go_roundg (gk - 1)
            case measure => omega
            case rel => exact ⟨j + 1, t1, _, by have := HJ.out; omega, rfl, by go_num, by have := HJ.out; have := HT1.out; omega, HMM, HS⟩
          case neg =>
            as_aux_lemma =>
            have e1 : ¬ (kk : Int) ≤ (j : Int) := by omega
            have e2 : (j : Int) < (kk : Int) := by omega
            have e3 : j < kk := by omega
            have HMM := Lib.hid (HM.out.skip (g := g1) e3)
            clear HM htn h6 hT hx
            go_wp2
            go_roundg (gk - 1)
            case measure => omega
            case rel => exact ⟨j + 1, tn, m, by have := HJ.out; omega, rfl, by go_num, by have := HJ.out; omega, HMM, HH⟩
        case neg =>
          as_aux_lemma =>
          have i1 : ¬ ((j : Int) < (mI : Int)) := by omega
          obtain ⟨q1, q2, q3, q4, q5⟩ := HL3.out.all_ HI.out HM.out (by omega)
          have hT := HT2.out
          have wlo := HI.out.wlo
          have whi := HI.out.whi
          have htn2 : tn = tc + (2 + (mI - kk)) := by omega
          cases on with
          | nil =>
            as_aux_lemma =>
            obtain rfl : mI = 0 := HI.out.l1.symm
            have HO : Hid (oHelp 1 5 [] is (kk : Int) wy od 99 rr 1 all (oTk 1 (([] : List Nat).zip is) f) = (dn, s1 1 5 m rr st dn, tn)) := by
              show oHelp _ _ _ _ _ _ _ _ _ _ _ _ = _
              rw [q1, htn2]; rfl
            have HF : Hid (FirstF [] m x0 x1) := ⟨q2, fun x l e => (by cases e)⟩
            have HX2 : Hid (Ob v1 d (s1 1 5 f rr 1 all) wr [.row (.slice (some ⟨g, 0, none⟩) 5 c) rfT (refN 5), .box nb i6T (infC m), .box q rcT #[.slice AN 0 cN, .slice AI 0 cI, .int .i64 (kk : Int), .int .i64 wy, .int .i64 od, .int .i64 99], .row (.slice AO 0 cO) inT (ints2 []), .row (.slice AN 0 cN) rfT (([] : List Nat).map rfN), .row (.slice AI 0 cI) i6T is, .box mb 4 (mrkC m), .box fb arT #[.int .i64 x0, .int .i64 x1]]) := by
              have q3' : infC m = infC g1 := q3
              show Ob _ _ _ _ _
              rw [q3']
              exact HH.out
            clear HH HM HL3 HI HN q1 q2 q3 q4 q5 hT htn htn2 h6 wlo whi
            go_wp2
            go_meet
            case rel => exact ⟨m, x0, x1, tn, rfl, HO, HF, HX2⟩
          | cons x l =>
            as_aux_lemma =>
            have hp : (0 : Int) < (mI : Int) := by have := HI.out.l1; simp at this; omega
            have hp2 : 0 < mI := by omega
            have hp3 : ¬ mI = 0 := by omega
            obtain ⟨t1, ht1⟩ : ∃ t1 : Nat, tn + 1 = t1 := ⟨_, rfl⟩
            have w1 : IntKind.i64.wrap ((tn : Int) + 1) = (t1 : Int) := by rw [IntWalk.i64_in _ (by omega)]; omega
            obtain ⟨n0, n1⟩ := HN.out x l rfl
            obtain ⟨p0, p1⟩ := q5 x
            have hm0 : (m x).w0 = x0 := by rw [p0, n0]
            have hm1 : (m x).w1 = x1 := by rw [p1, n1]
            have cW := HH.out.cell (i := 2) (j := 3) rfl rfl
            have cD := HH.out.cell (i := 2) (j := 4) rfl rfl
            have cF0 := HH.out.cell (i := 7) (j := 0) rfl rfl
            have cF1 := HH.out.cell (i := 7) (j := 1) rfl rfl
            have fF0 := HH.out.free (i := 7) rfl 0
            have fF1 := HH.out.free (i := 7) rfl 1
            obtain ⟨F, hF⟩ : ∃ F, oWay (x :: l) wy od 99 m = F := ⟨_, rfl⟩
            have HFE := Lib.hid hF
            rw [hF] at q1 q2 q3 q4
            have HE : Hid (∀ (a0 a1 : Int) (V : World), a0 = (F x).w0 → a1 = (F x).w1 → Ob v1 d (s1 1 5 f rr 1 all) V [.row (.slice (some ⟨g, 0, none⟩) 5 c) rfT (refN 5), .box nb i6T (infC g1), .box q rcT #[.slice AN mI cN, .slice AI mI cI, .int .i64 (kk : Int), .int .i64 wy, .int .i64 od, .int .i64 99], .row (.slice AO mI cO) inT (ints2 (x :: l)), .row (.slice AN mI cN) rfT ((x :: l).map rfN), .row (.slice AI mI cI) i6T is, .box mb 4 (mrkC m), .box fb arT #[.int .i64 a0, .int .i64 a1]] → ∃ (F : Nat → Ns) (y0 y1 : Int) (tc2 : Nat), Value.int .i64 (t1 : Int) = .int .i64 (tc2 : Int) ∧ Hid (oHelp 1 5 (x :: l) is (kk : Int) wy od 99 rr 1 all (oTk 1 ((x :: l).zip is) f) = (dn, s1 1 5 F rr st dn, tc2)) ∧ Hid (FirstF (x :: l) F y0 y1) ∧ Hid (Ob v1 d (s1 1 5 f rr 1 all) V [.row (.slice (some ⟨g, 0, none⟩) 5 c) rfT (refN 5), .box nb i6T (infC F), .box q rcT #[.slice AN mI cN, .slice AI mI cI, .int .i64 (kk : Int), .int .i64 wy, .int .i64 od, .int .i64 99], .row (.slice AO mI cO) inT (ints2 (x :: l)), .row (.slice AN mI cN) rfT ((x :: l).map rfN), .row (.slice AI mI cI) i6T is, .box mb 4 (mrkC F), .box fb arT #[.int .i64 y0, .int .i64 y1]])) := by
              intro a0 a1 V h0 h1 hV
              refine ⟨F, a0, a1, t1, rfl, ?_, ⟨q2, fun y l' e => ?_⟩, ?_⟩
              · show oHelp _ _ _ _ _ _ _ _ _ _ _ _ = _
                rw [q1, ← ht1, htn2]; rfl
              · injection e with e1 e2
                subst e1
                exact ⟨h0, h1⟩
              · show Ob _ _ _ _ _
                rw [q3, q4]
                exact hV
            have HHD : Hid (∀ t, Ob v1 d (s1 1 5 f rr 1 all) (wr.drewN t) [.row (.slice (some ⟨g, 0, none⟩) 5 c) rfT (refN 5), .box nb i6T (infC g1), .box q rcT #[.slice AN mI cN, .slice AI mI cI, .int .i64 (kk : Int), .int .i64 wy, .int .i64 od, .int .i64 99], .row (.slice AO mI cO) inT (ints2 (x :: l)), .row (.slice AN mI cN) rfT ((x :: l).map rfN), .row (.slice AI mI cI) i6T is, .box mb 4 (mrkC m), .box fb arT #[.int .i64 x0, .int .i64 x1]]) := fun t => HH.out.drewN t
            have HM0 := Lib.hid hm0
            have HM1 := Lib.hid hm1
            have hcase : (wy = 0 ∧ x0 = od) ∨ (wy = 1 ∧ x1 = od) ∨ (¬ (wy = 0 ∧ x0 = od) ∧ ¬ (wy = 1 ∧ x1 = od)) := by
              by_cases e1 : wy = 0 ∧ x0 = od
              · exact .inl e1
              · by_cases e2 : wy = 1 ∧ x1 = od
                · exact .inr (.inl e2)
                · exact .inr (.inr ⟨e1, e2⟩)
            have hw4 : wy = -1 ∨ wy = 0 ∨ wy = 1 ∨ wy = 2 := by omega
            clear HH HM HL3 HI HN q1 q2 q3 q4 q5 hT htn htn2 h6 wlo whi ht1 n0 n1 p0 p1 hm0 hm1 hF
            rcases hcase with ⟨e1, e2⟩ | ⟨e1, e2⟩ | ⟨e1, e2⟩
            · as_aux_lemma =>
              have HFF := Lib.hid (HFE.out.symm.trans (by rw [e1] : oWay (x :: l) wy od 99 m = oWay (x :: l) 0 od 99 m))
              have HE2 := Lib.hid e2
              subst e1
              have eo : (x0 == od) = true := by simp [e2]
              clear hw4 e2
              go_upto_region 56 with fail
              go_quiet (fail)
              go_wp2
              go_meet
              case rel =>
                have h := first_0 (l := l) (HM0.out.trans HE2.out)
                rw [← HFF.out, HM1.out] at h
                exact HE.out 99 x1 _ h.1.symm h.2.symm ((HHD.out _).set (i := 7) rfl 0 (.int .i64 99))
            · as_aux_lemma =>
              have HFF := Lib.hid (HFE.out.symm.trans (by rw [e1] : oWay (x :: l) wy od 99 m = oWay (x :: l) 1 od 99 m))
              have HE2 := Lib.hid e2
              subst e1
              have eo : (x1 == od) = true := by simp [e2]
              clear hw4 e2
              go_upto_region 56 with fail
              go_quiet (fail)
              go_wp2
              go_meet
              case rel =>
                have h := first_1 (l := l) (HM1.out.trans HE2.out)
                rw [← HFF.out, HM0.out] at h
                exact HE.out x0 99 _ h.1.symm h.2.symm ((HHD.out _).set (i := 7) rfl 1 (.int .i64 99))
            · as_aux_lemma =>
              have HFF : Hid (m = F) := HFE.out ▸ (oway_no (l := l) (wy := wy) (od := od) (by rw [HM0.out]; exact e1) (by rw [HM1.out]; exact e2)).symm
              rcases hw4 with e | e | e | e
              · subst e
                clear e1 e2
                go_upto_region 56 with fail
                go_quiet (fail)
                go_wp2
                go_meet
                case rel => exact HE.out x0 x1 _ (by rw [← HFF.out, HM0.out]) (by rw [← HFF.out, HM1.out]) (HHD.out _)
              · subst e
                have eo : (x0 == od) = false := by simpa using fun h => e1 ⟨rfl, h⟩
                clear e1 e2
                go_upto_region 56 with fail
                go_quiet (fail)
                go_wp2
                go_meet
                case rel => exact HE.out x0 x1 _ (by rw [← HFF.out, HM0.out]) (by rw [← HFF.out, HM1.out]) (HHD.out _)
              · subst e
                have eo : (x1 == od) = false := by simpa using fun h => e2 ⟨rfl, h⟩
                clear e1 e2
                go_upto_region 56 with fail
                go_quiet (fail)
                go_wp2
                go_meet
                case rel => exact HE.out x0 x1 _ (by rw [← HFF.out, HM0.out]) (by rw [← HFF.out, HM1.out]) (HHD.out _)
              · subst e
                clear e1 e2
                go_upto_region 56 with fail
                go_quiet (fail)
                go_wp2
                go_meet
                case rel => exact HE.out x0 x1 _ (by rw [← HFF.out, HM0.out]) (by rw [← HFF.out, HM1.out]) (HHD.out _)
end Go.Proofs.Ytoeilogakfggfaa
