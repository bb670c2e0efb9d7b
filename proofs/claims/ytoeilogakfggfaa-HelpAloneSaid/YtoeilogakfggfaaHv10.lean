/-
  The law HelpAlone: its regions 62 to 70.
-/
import Derived.Test.YtoeilogakfggfaaHr10
import Derived.Deep.CutBlock
import Derived.Deep.DeepCutAuto
import Derived.Deep.LoopGhost
namespace Go.Proofs.Ytoeilogakfggfaa
open Go.ChangeShapes Go.WideShapes Go.ChangeAt Go.RowKit
set_option linter.unusedVariables false
set_option linter.unusedSimpArgs false
set_option maxRecDepth 20000

set_option maxHeartbeats 8000000 in
theorem ha62_walk {w v1 wc : World} {d : Wd} {g c nb q mb fb mI cN cI cO kk : Nat} {AN AI AO : Option Addr} {on : List Nat} {is : List Int} {wy od st x0 x1 : Int} {rr : Rc} {F : Nat → Ns} {dn : Bool} {sl0 sl1 sl2 sl3 sl4 sl5 sl6 sl7 sl8 sl9 sl10 sl11 sl12 sl16 sl17 sl18 sl20 sl21 sl22 sl23 sl24 sl25 sl26 sl27 sl29 sl30 sl31 sl33 sl34 sl35 sl36 sl37 sl38 sl39 sl40 sl41 sl42 sl43 sl44 sl45 sl46 sl47 sl48 sl49 sl50 sl51 sl52 sl53 sl54 sl55 sl56 sl57 sl58 sl59 sl60 sl61 sl62 sl63 sl64 sl65 sl66 sl67 sl68 sl69 sl70 sl71 sl72 sl73 sl74 sl75 sl76 sl77 sl78 sl79 sl80 sl81 sl82 sl83 sl84 sl85 sl86 sl87 sl88 sl89 sl90 sl91 sl92 sl93 sl94 sl95 sl96 sl97 sl98 sl99 sl100 sl101 sl102 sl103 sl104 sl105 sl106 sl107 sl108 sl109 sl110 sl111 sl112 sl113 sl114 sl115 sl116 sl117 sl118 sl119 sl120 sl121 sl122 sl123 sl124 sl125 sl126 sl127 sl128 sl129 sl130 sl131 sl132 sl133 sl134 sl135 sl136 sl137 sl138 sl139 sl140 sl141 sl142 sl143 sl144 sl145 sl146 sl147 sl148 sl149 sl150 sl151 sl152 sl153 sl154 sl155 sl156 sl157 sl158 sl159 sl160 sl161 sl162 sl163 sl164 sl165 sl166 sl167 sl168 sl169 sl170 sl171 sl172 sl173 sl174 sl175 sl176 sl177 sl178 sl179 sl180 sl181 sl182 sl183 sl184 sl185 sl186 sl187 sl188 sl189 sl190 sl191 sl192 sl193 sl194 sl195 sl196 sl197 sl198 sl199 sl200 sl201 sl202 sl203 sl204 sl205 sl206 sl207 sl208 sl209 sl210 sl211 sl212 sl213 sl214 sl215 sl216 sl217 sl218 sl219 sl220 sl221 sl222 sl223 sl224 sl225 sl226 sl227 sl228 sl229 sl230 sl231 sl232 sl233 sl234 sl235 sl236 sl237 sl238 sl239 sl240 sl241 sl242 sl243 sl244 sl245 sl246 sl247 sl248 sl249 sl250 sl251 sl252 sl253 sl254 sl255 sl256 sl257 sl258 sl259 sl260 sl261 sl262 sl263 sl264 sl265 sl266 sl267 sl268 sl269 sl270 sl271 sl272 sl273 sl274 sl275 sl276 sl277 sl278 sl279 sl280 sl281 sl282 sl283 sl284 sl285 sl286 sl287 sl288 sl289 sl290 sl291 sl292 sl293 sl294 sl295 sl296 sl297 sl298 sl299 sl300 sl301 sl302 sl303 sl304 sl305 sl306 sl307 sl308 sl309 sl310 sl311 sl312 sl313 sl314 sl315 sl316 sl317 sl318 sl319 sl320 sl321 sl322 sl323 sl324 sl325 sl326 sl327 sl328 sl329 sl330 sl331 sl332 sl333 sl334 sl335 sl336 sl337 sl338 sl339 sl340 sl341 sl342 sl343 sl344 sl345 sl346 sl347 sl348 sl349 sl350 sl351 sl352 sl353 sl354 sl355 sl356 sl357 sl358 sl359 sl360 sl361 sl362 sl363 sl364 sl365 sl366 sl367 sl368 sl369 sl370 sl371 sl372 : Value}
    (HB1 : Hid (Below w.heap.size w v1)) (HL1 : Hid (on.length = mI)) (H5 : Hid (∀ x ∈ on, x < 5)) (HF : Hid (FirstF on F x0 x1))
    (HX : Hid (Of v1 d (s1 1 5 F rr st dn) wc [.row (.slice (some ⟨g, 0, none⟩) 5 c) rfT (refN 5), .box nb i6T (infC F), .box q rcT #[.slice AN mI cN, .slice AI mI cI, .int .i64 (kk : Int), .int .i64 wy, .int .i64 od, .int .i64 99], .row (.slice AO mI cO) inT (ints2 on), .row (.slice AN mI cN) rfT (on.map rfN), .row (.slice AI mI cI) i6T is, .box mb 4 (mrkC F), .box fb arT #[.int .i64 x0, .int .i64 x1]])) :
    Code.wp Try.prog ha62 (bodyPost Try.prog Try.f3 (fun e w' => e = .returned (.bool true) ∧ Below w.heap.size w w')) ⟨(sl0 :: sl1 :: sl2 :: sl3 :: sl4 :: sl5 :: sl6 :: sl7 :: sl8 :: sl9 :: sl10 :: sl11 :: sl12 :: ptr d.W :: .slice (some ⟨g, 0, none⟩) 5 c :: .slice (some ⟨nb, 0, none⟩) 5 5 :: sl16 :: sl17 :: sl18 :: .slice AO mI cO :: sl20 :: sl21 :: sl22 :: sl23 :: sl24 :: sl25 :: sl26 :: sl27 :: .slice (some ⟨mb, 0, none⟩) 5 5 :: sl29 :: sl30 :: sl31 :: .pointer (some ⟨fb, 0, none⟩) :: sl33 :: sl34 :: sl35 :: sl36 :: sl37 :: sl38 :: sl39 :: sl40 :: sl41 :: sl42 :: sl43 :: sl44 :: sl45 :: sl46 :: sl47 :: sl48 :: sl49 :: sl50 :: sl51 :: sl52 :: sl53 :: sl54 :: sl55 :: sl56 :: sl57 :: sl58 :: sl59 :: sl60 :: sl61 :: sl62 :: sl63 :: sl64 :: sl65 :: sl66 :: sl67 :: sl68 :: sl69 :: sl70 :: sl71 :: sl72 :: sl73 :: sl74 :: sl75 :: sl76 :: sl77 :: sl78 :: sl79 :: sl80 :: sl81 :: sl82 :: sl83 :: sl84 :: sl85 :: sl86 :: sl87 :: sl88 :: sl89 :: sl90 :: sl91 :: sl92 :: sl93 :: sl94 :: sl95 :: sl96 :: sl97 :: sl98 :: sl99 :: sl100 :: sl101 :: sl102 :: sl103 :: sl104 :: sl105 :: sl106 :: sl107 :: sl108 :: sl109 :: sl110 :: sl111 :: sl112 :: sl113 :: sl114 :: sl115 :: sl116 :: sl117 :: sl118 :: sl119 :: sl120 :: sl121 :: sl122 :: sl123 :: sl124 :: sl125 :: sl126 :: sl127 :: sl128 :: sl129 :: sl130 :: sl131 :: sl132 :: sl133 :: sl134 :: sl135 :: sl136 :: sl137 :: sl138 :: sl139 :: sl140 :: sl141 :: sl142 :: sl143 :: sl144 :: sl145 :: sl146 :: sl147 :: sl148 :: sl149 :: sl150 :: sl151 :: sl152 :: sl153 :: sl154 :: sl155 :: sl156 :: sl157 :: sl158 :: sl159 :: sl160 :: sl161 :: sl162 :: sl163 :: sl164 :: sl165 :: sl166 :: sl167 :: sl168 :: sl169 :: sl170 :: sl171 :: sl172 :: sl173 :: sl174 :: sl175 :: sl176 :: sl177 :: sl178 :: sl179 :: sl180 :: sl181 :: sl182 :: sl183 :: sl184 :: sl185 :: sl186 :: sl187 :: sl188 :: sl189 :: sl190 :: sl191 :: sl192 :: sl193 :: sl194 :: sl195 :: sl196 :: sl197 :: sl198 :: sl199 :: sl200 :: sl201 :: sl202 :: sl203 :: sl204 :: sl205 :: sl206 :: sl207 :: sl208 :: sl209 :: sl210 :: sl211 :: sl212 :: sl213 :: sl214 :: sl215 :: sl216 :: sl217 :: sl218 :: sl219 :: sl220 :: sl221 :: sl222 :: sl223 :: sl224 :: sl225 :: sl226 :: sl227 :: sl228 :: sl229 :: sl230 :: sl231 :: sl232 :: sl233 :: sl234 :: sl235 :: sl236 :: sl237 :: sl238 :: sl239 :: sl240 :: sl241 :: sl242 :: sl243 :: sl244 :: sl245 :: sl246 :: sl247 :: sl248 :: sl249 :: sl250 :: sl251 :: sl252 :: sl253 :: sl254 :: sl255 :: sl256 :: sl257 :: sl258 :: sl259 :: sl260 :: sl261 :: sl262 :: sl263 :: sl264 :: sl265 :: sl266 :: sl267 :: sl268 :: sl269 :: sl270 :: sl271 :: sl272 :: sl273 :: sl274 :: sl275 :: sl276 :: sl277 :: sl278 :: sl279 :: sl280 :: sl281 :: sl282 :: sl283 :: sl284 :: sl285 :: sl286 :: sl287 :: sl288 :: sl289 :: sl290 :: sl291 :: sl292 :: sl293 :: sl294 :: sl295 :: sl296 :: sl297 :: sl298 :: sl299 :: sl300 :: sl301 :: sl302 :: sl303 :: sl304 :: sl305 :: sl306 :: sl307 :: sl308 :: sl309 :: sl310 :: sl311 :: sl312 :: sl313 :: sl314 :: sl315 :: sl316 :: sl317 :: sl318 :: sl319 :: sl320 :: sl321 :: sl322 :: sl323 :: sl324 :: sl325 :: sl326 :: sl327 :: sl328 :: sl329 :: sl330 :: sl331 :: sl332 :: sl333 :: sl334 :: sl335 :: sl336 :: sl337 :: sl338 :: sl339 :: sl340 :: sl341 :: sl342 :: sl343 :: sl344 :: sl345 :: sl346 :: sl347 :: sl348 :: sl349 :: sl350 :: sl351 :: sl352 :: sl353 :: sl354 :: sl355 :: sl356 :: sl357 :: sl358 :: sl359 :: sl360 :: sl361 :: sl362 :: sl363 :: sl364 :: sl365 :: sl366 :: sl367 :: sl368 :: sl369 :: sl370 :: sl371 :: sl372 :: []).toArray, []⟩ wc := by
  conv => arg 2; whnf
  go_wp2_with fail
  go_loopg [302] 5 (fun gk iv wr => ∃ k : Nat, k + gk = 5 ∧ iv = .int .i64 (k : Int) ∧ Hid (Of v1 d (s1 1 5 F rr st dn) wr [.row (.slice (some ⟨g, 0, none⟩) 5 c) rfT (refN 5), .box nb i6T (infC F), .box q rcT #[.slice AN mI cN, .slice AI mI cI, .int .i64 (kk : Int), .int .i64 wy, .int .i64 od, .int .i64 99], .row (.slice AO mI cO) inT (ints2 on), .row (.slice AN mI cN) rfT (on.map rfN), .row (.slice AI mI cI) i6T is, .box mb 4 (mrkC F), .box fb arT #[.int .i64 x0, .int .i64 x1]]))
  case atStart => exact ⟨0, by omega, rfl, HX⟩
  case round =>
    clear HX
    obtain ⟨k, hk, rfl, HH⟩ := hrel
    by_cases hlt : k < 5
    case pos =>
      as_aux_lemma =>
      have i1 : (k : Int) < 5 := by omega
      have i0 : (0 : Int) ≤ (k : Int) := by omega
      have hkw : IntKind.i64.wrap ((k : Int) + 1) = (k : Int) + 1 := IntWalk.i64_in _ (by omega)
      obtain ⟨g', e1, cG, -⟩ := HH.out.num (i := 0) rfl (refN_at (k := 5) (i := k) (by omega))
      injection e1 with e1
      injection e1 with e1
      subst e1
      obtain ⟨cA, cR⟩ := HH.out.cells
      have cN0 := HH.out.cell (i := 1) rfl (infC_at F hlt)
      have cM0 := HH.out.cell (i := 6) rfl (mrkC_at F hlt)
      have Q1 : Hid (∀ t, Calls Try.prog 15 #[ptr d.A, .int .i64 (rfN k)] (wr.drewN t) fun e w' => e = .returned (.int .i64 (F k).inf) ∧ ∃ t', w' = wr.drewN t') := fun t => by
        refine ((HH.out.drewN t).info HF.out.1 hlt).mono ?_
        rintro e w' ⟨rfl, rfl⟩
        exact ⟨rfl, t, rfl⟩
      have Q2 : Hid (∀ t, Calls Try.prog 16 #[ptr d.A, .int .i64 (rfN k)] (wr.drewN t) fun e w' => e = .returned (.bool (F k).mark) ∧ ∃ t', w' = wr.drewN t') := fun t => by
        refine ((HH.out.drewN t).mark HF.out.1 hlt).mono ?_
        rintro e w' ⟨rfl, rfl⟩
        exact ⟨rfl, t, rfl⟩
      have HN : Hid (∀ t, Of v1 d (s1 1 5 F rr st dn) (wr.drewN t) [.row (.slice (some ⟨g, 0, none⟩) 5 c) rfT (refN 5), .box nb i6T (infC F), .box q rcT #[.slice AN mI cN, .slice AI mI cI, .int .i64 (kk : Int), .int .i64 wy, .int .i64 od, .int .i64 99], .row (.slice AO mI cO) inT (ints2 on), .row (.slice AN mI cN) rfT (on.map rfN), .row (.slice AI mI cI) i6T is, .box mb 4 (mrkC F), .box fb arT #[.int .i64 x0, .int .i64 x1]]) := fun t => HH.out.drewN t
      obtain ⟨rj, hrj⟩ : ∃ rj, rfN k = rj := ⟨_, rfl⟩
      obtain ⟨zi, hzi⟩ : ∃ zi, (F k).inf = zi := ⟨_, rfl⟩
      obtain ⟨zm, hzm⟩ : ∃ zm, (F k).mark = zm := ⟨_, rfl⟩
      rw [hrj] at cG Q1 Q2
      rw [hzi] at cN0 Q1
      rw [hzm] at cM0 Q2
      clear hrj hzi hzm HH
      have bm : (zm != zm) = false := by cases zm <;> rfl
      go_upto_region 65 with fail
      go_quiet (first
        | (go_at_call 15; exact Q1.out _)
        | (go_at_call 16; exact Q2.out _))
      go_wp2
      go_roundg (gk - 1)
      case measure => omega
      case rel => exact ⟨k + 1, by omega, by go_num, Lib.hid (HN.out _)⟩
    case neg =>
      as_aux_lemma =>
      have i1 : ¬ ((k : Int) < 5) := by omega
      obtain ⟨cA, cR⟩ := HH.out.cells
      have HFA : Hid (∀ t, Calls Try.prog 18 #[ptr d.A] (wr.drewN t) fun e w' => e = .returned (.int .i64 0) ∧ wr.drewN t = w') := fun t => (HH.out.drewN t).faults
      have HE : Hid (∀ t, Below w.heap.size w (wr.drewN t)) := fun t => HB1.out.trans ((HH.out.drewN t).bel.mono HB1.out.size)
      cases on with
      | nil =>
        as_aux_lemma =>
        obtain rfl : mI = 0 := HL1.out.symm
        clear HH HF H5 HL1
        go_upto_region 68 with fail
        go_quiet (fail)
        go_wp2_with fail
        refine (HFA.out _).mono ?_
        rintro e w' ⟨rfl, rfl⟩
        go_wp2
        go_ret
        exact ⟨rfl, HE.out _⟩
      | cons x l =>
        as_aux_lemma =>
        have hp : (0 : Int) < (mI : Int) := by have := HL1.out; simp at this; omega
        have hp2 : 0 < mI := by omega
        have hp3 : ¬ mI = 0 := by omega
        have hx5 : x < 5 := H5.out x (List.mem_cons_self ..)
        have j0 : (0 : Int) ≤ (x : Int) := by omega
        have j5 : (x : Int) < 5 := by omega
        obtain ⟨go, eO, cO0, -⟩ := HH.out.num (i := 3) (j := 0) (z := (x : Int)) rfl rfl
        subst eO
        obtain ⟨g', e1, cG, -⟩ := HH.out.num (i := 0) rfl (refN_at (k := 5) (i := x) (by omega))
        injection e1 with e1
        injection e1 with e1
        subst e1
        have cF0 := HH.out.cell (i := 7) (j := 0) rfl rfl
        have cF1 := HH.out.cell (i := 7) (j := 1) rfl rfl
        obtain ⟨e2, e3⟩ := HF.out.2 x l rfl
        obtain ⟨fW, hfW⟩ : ∃ fW : Int → Int, (fun k => wayAt (nodePa x (F x)) k) = fW := ⟨_, rfl⟩
        have e4 : fW 0 = x0 := by rw [← hfW, e2]; rfl
        have e5 : fW 1 = x1 := by rw [← hfW, e3]; rfl
        have Q1 : Hid (∀ t k, Calls Try.prog 17 #[ptr d.A, .int .i64 (rfN x), .int .i64 k] (wr.drewN t) fun e w' => e = .returned (.int .i64 (fW k)) ∧ ∃ t', w' = wr.drewN t') := fun t k => by
          refine ((HH.out.drewN t).wayK HF.out.1 hx5 k).mono ?_
          rintro e w' ⟨rfl, rfl⟩
          exact ⟨by rw [← hfW], t, rfl⟩
        obtain ⟨rj, hrj⟩ : ∃ rj, rfN x = rj := ⟨_, rfl⟩
        rw [hrj] at cG Q1
        clear hrj HH e2 e3 HF H5 HL1 hfW
        go_upto_region 68 with fail
        go_quiet ((go_at_call 17; exact Q1.out _ _))
        go_wp2_with fail
        refine (HFA.out _).mono ?_
        rintro e w' ⟨rfl, rfl⟩
        go_wp2
        go_ret
        exact ⟨rfl, HE.out _⟩
end Go.Proofs.Ytoeilogakfggfaa
