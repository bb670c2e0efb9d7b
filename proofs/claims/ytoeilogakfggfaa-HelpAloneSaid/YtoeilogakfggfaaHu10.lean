/-
  The law HelpAlone: its regions 28 to 41.
-/
import Derived.Test.YtoeilogakfggfaaHt10
import Derived.Deep.CutBlock
import Derived.Deep.DeepCutAuto
import Derived.Deep.LoopGhost
namespace Go.Proofs.Ytoeilogakfggfaa
open Go.ChangeShapes Go.WideShapes Go.ChangeAt Go.RowKit
set_option linter.unusedVariables false
set_option linter.unusedSimpArgs false
set_option maxRecDepth 20000

set_option maxHeartbeats 8000000 in
theorem ha28_walk {w v1 wc : World} {d : Wd} {g c nb q mb mI cN cI cO kk : Nat} {AN AI AO : Option Addr} {on : List Nat} {is : List Int} {wy od : Int} {rr : Rc} {f : Nat → Ns} {all : Bool} (HB1 : Hid (Below w.heap.size w v1)) (HI : Hid (HAi on is mI kk wy od rr f)) {sl0 sl1 sl2 sl3 sl4 sl6 sl7 sl8 sl9 sl10 sl11 sl12 sl16 sl17 sl20 sl21 sl22 sl24 sl30 sl31 sl32 sl33 sl34 sl35 sl36 sl37 sl38 sl39 sl40 sl41 sl42 sl43 sl44 sl45 sl46 sl47 sl48 sl49 sl50 sl51 sl52 sl53 sl54 sl55 sl56 sl57 sl58 sl59 sl60 sl61 sl62 sl63 sl64 sl65 sl66 sl67 sl68 sl69 sl70 sl71 sl72 sl73 sl74 sl75 sl76 sl77 sl78 sl79 sl80 sl81 sl82 sl83 sl84 sl85 sl86 sl87 sl88 sl89 sl90 sl91 sl92 sl93 sl94 sl95 sl96 sl97 sl98 sl99 sl100 sl101 sl102 sl103 sl104 sl105 sl106 sl107 sl108 sl109 sl110 sl111 sl112 sl113 sl114 sl115 sl116 sl117 sl118 sl119 sl120 sl121 sl122 sl123 sl124 sl125 sl126 sl127 sl128 sl129 sl130 sl131 sl132 sl133 sl134 sl135 sl136 sl137 sl138 sl139 sl140 sl141 sl142 sl143 sl144 sl145 sl146 sl147 sl148 sl149 sl150 sl151 sl152 sl153 sl154 sl155 sl156 sl157 sl158 sl159 sl160 sl161 sl162 sl163 sl164 sl165 sl166 sl167 sl168 sl169 sl170 sl171 sl172 sl173 sl174 sl175 sl176 sl177 sl178 sl179 sl180 sl181 sl182 sl183 sl184 sl185 sl186 sl187 sl188 sl189 sl190 sl191 sl192 sl193 sl194 sl195 sl196 sl197 sl198 sl199 sl200 sl201 sl202 sl203 sl204 sl205 sl206 sl207 sl208 sl209 sl210 sl211 sl212 sl213 sl214 sl215 sl216 sl217 sl218 sl219 sl220 sl221 sl222 sl223 sl224 sl225 sl226 sl227 sl228 sl229 sl230 sl231 sl232 sl233 sl234 sl235 sl236 sl237 sl238 sl239 sl240 sl241 sl242 sl243 sl244 sl245 sl246 sl247 sl248 sl249 sl250 sl251 sl252 sl253 sl254 sl255 sl256 sl257 sl258 sl259 sl260 sl261 sl262 sl263 sl264 sl265 sl266 sl267 sl268 sl269 sl270 sl271 sl272 sl273 sl274 sl275 sl276 sl277 sl278 sl279 sl280 sl281 sl282 sl283 sl284 sl285 sl286 sl287 sl288 sl289 sl290 sl291 sl292 sl293 sl294 sl295 sl296 sl297 sl298 sl299 sl300 sl301 sl302 sl303 sl304 sl305 sl306 sl307 sl308 sl309 sl310 sl311 sl312 sl313 sl314 sl315 sl316 sl317 sl318 sl319 sl320 sl321 sl322 sl323 sl324 sl325 sl326 sl327 sl328 sl329 sl330 sl331 sl332 sl333 sl334 sl335 sl336 sl337 sl338 sl339 sl340 sl341 sl342 sl343 sl344 sl345 sl346 sl347 sl348 sl349 sl350 sl351 sl352 sl353 sl354 sl355 sl356 sl357 sl358 sl359 sl360 sl361 sl362 sl363 sl364 sl365 sl366 sl367 sl368 sl369 sl370 sl371 sl372 : Value}
    (HX : Hid (Ob v1 d (s1 1 5 f rr 1 all) wc [.row (.slice (some ⟨g, 0, none⟩) 5 c) rfT (refN 5), .box nb i6T (infC f), .box q rcT #[.slice AN mI cN, .slice AI mI cI, .int .i64 (kk : Int), .int .i64 wy, .int .i64 od, .int .i64 99], .row (.slice AO mI cO) inT (ints2 on), .row (.slice AN mI cN) rfT (on.map rfN), .row (.slice AI mI cI) i6T is, .box mb 4 (mrkC f)])) :
    Code.wp Try.prog ha28 (bodyPost Try.prog Try.f3 (fun e w' => e = .returned (.bool true) ∧ Below w.heap.size w w')) ⟨(sl0 :: sl1 :: sl2 :: sl3 :: sl4 :: .bool all :: sl6 :: sl7 :: sl8 :: sl9 :: sl10 :: sl11 :: sl12 :: ptr d.W :: .slice (some ⟨g, 0, none⟩) 5 c :: .slice (some ⟨nb, 0, none⟩) 5 5 :: sl16 :: sl17 :: .pointer (some ⟨q, 0, none⟩) :: .slice AO mI cO :: sl20 :: sl21 :: sl22 :: .int .i64 1 :: sl24 :: .int .i64 0 :: .int .u8 2 :: .bool true :: .slice (some ⟨mb, 0, none⟩) 5 5 :: .bool false :: sl30 :: sl31 :: sl32 :: sl33 :: sl34 :: sl35 :: sl36 :: sl37 :: sl38 :: sl39 :: sl40 :: sl41 :: sl42 :: sl43 :: sl44 :: sl45 :: sl46 :: sl47 :: sl48 :: sl49 :: sl50 :: sl51 :: sl52 :: sl53 :: sl54 :: sl55 :: sl56 :: sl57 :: sl58 :: sl59 :: sl60 :: sl61 :: sl62 :: sl63 :: sl64 :: sl65 :: sl66 :: sl67 :: sl68 :: sl69 :: sl70 :: sl71 :: sl72 :: sl73 :: sl74 :: sl75 :: sl76 :: sl77 :: sl78 :: sl79 :: sl80 :: sl81 :: sl82 :: sl83 :: sl84 :: sl85 :: sl86 :: sl87 :: sl88 :: sl89 :: sl90 :: sl91 :: sl92 :: sl93 :: sl94 :: sl95 :: sl96 :: sl97 :: sl98 :: sl99 :: sl100 :: sl101 :: sl102 :: sl103 :: sl104 :: sl105 :: sl106 :: sl107 :: sl108 :: sl109 :: sl110 :: sl111 :: sl112 :: sl113 :: sl114 :: sl115 :: sl116 :: sl117 :: sl118 :: sl119 :: sl120 :: sl121 :: sl122 :: sl123 :: sl124 :: sl125 :: sl126 :: sl127 :: sl128 :: sl129 :: sl130 :: sl131 :: sl132 :: sl133 :: sl134 :: sl135 :: sl136 :: sl137 :: sl138 :: sl139 :: sl140 :: sl141 :: sl142 :: sl143 :: sl144 :: sl145 :: sl146 :: sl147 :: sl148 :: sl149 :: sl150 :: sl151 :: sl152 :: sl153 :: sl154 :: sl155 :: sl156 :: sl157 :: sl158 :: sl159 :: sl160 :: sl161 :: sl162 :: sl163 :: sl164 :: sl165 :: sl166 :: sl167 :: sl168 :: sl169 :: sl170 :: sl171 :: sl172 :: sl173 :: sl174 :: sl175 :: sl176 :: sl177 :: sl178 :: sl179 :: sl180 :: sl181 :: sl182 :: sl183 :: sl184 :: sl185 :: sl186 :: sl187 :: sl188 :: sl189 :: sl190 :: sl191 :: sl192 :: sl193 :: sl194 :: sl195 :: sl196 :: sl197 :: sl198 :: sl199 :: sl200 :: sl201 :: sl202 :: sl203 :: sl204 :: sl205 :: sl206 :: sl207 :: sl208 :: sl209 :: sl210 :: sl211 :: sl212 :: sl213 :: sl214 :: sl215 :: sl216 :: sl217 :: sl218 :: sl219 :: sl220 :: sl221 :: sl222 :: sl223 :: sl224 :: sl225 :: sl226 :: sl227 :: sl228 :: sl229 :: sl230 :: sl231 :: sl232 :: sl233 :: sl234 :: sl235 :: sl236 :: sl237 :: sl238 :: sl239 :: sl240 :: sl241 :: sl242 :: sl243 :: sl244 :: sl245 :: sl246 :: sl247 :: sl248 :: sl249 :: sl250 :: sl251 :: sl252 :: sl253 :: sl254 :: sl255 :: sl256 :: sl257 :: sl258 :: sl259 :: sl260 :: sl261 :: sl262 :: sl263 :: sl264 :: sl265 :: sl266 :: sl267 :: sl268 :: sl269 :: sl270 :: sl271 :: sl272 :: sl273 :: sl274 :: sl275 :: sl276 :: sl277 :: sl278 :: sl279 :: sl280 :: sl281 :: sl282 :: sl283 :: sl284 :: sl285 :: sl286 :: sl287 :: sl288 :: sl289 :: sl290 :: sl291 :: sl292 :: sl293 :: sl294 :: sl295 :: sl296 :: sl297 :: sl298 :: sl299 :: sl300 :: sl301 :: sl302 :: sl303 :: sl304 :: sl305 :: sl306 :: sl307 :: sl308 :: sl309 :: sl310 :: sl311 :: sl312 :: sl313 :: sl314 :: sl315 :: sl316 :: sl317 :: sl318 :: sl319 :: sl320 :: sl321 :: sl322 :: sl323 :: sl324 :: sl325 :: sl326 :: sl327 :: sl328 :: sl329 :: sl330 :: sl331 :: sl332 :: sl333 :: sl334 :: sl335 :: sl336 :: sl337 :: sl338 :: sl339 :: sl340 :: sl341 :: sl342 :: sl343 :: sl344 :: sl345 :: sl346 :: sl347 :: sl348 :: sl349 :: sl350 :: sl351 :: sl352 :: sl353 :: sl354 :: sl355 :: sl356 :: sl357 :: sl358 :: sl359 :: sl360 :: sl361 :: sl362 :: sl363 :: sl364 :: sl365 :: sl366 :: sl367 :: sl368 :: sl369 :: sl370 :: sl371 :: sl372 :: []).toArray, []⟩ wc := by
  conv => arg 2; whnf
  go_upto_block 4 with fail
  go_cut [25, 26, 27, 29] (fun tv sv dv ev wx => ∃ (g1 : Nat → Ns) (tc : Nat) (st : Int) (dn set : Bool), tv = .int .i64 (tc : Int) ∧ sv = .int .u8 st ∧ dv = .bool dn ∧ ev = .bool set ∧ Hid (L3 on is f all g1 tc st dn set) ∧ Hid (Ob v1 d (s1 1 5 f rr 1 all) wx [.row (.slice (some ⟨g, 0, none⟩) 5 c) rfT (refN 5), .box nb i6T (infC g1), .box q rcT #[.slice AN mI cN, .slice AI mI cI, .int .i64 (kk : Int), .int .i64 wy, .int .i64 od, .int .i64 99], .row (.slice AO mI cO) inT (ints2 on), .row (.slice AN mI cN) rfT (on.map rfN), .row (.slice AI mI cI) i6T is, .box mb 4 (mrkC f)]))
  case rest =>
    as_aux_lemma =>
    obtain ⟨g1, tc, st, dn, set, rfl, rfl, rfl, rfl, HL, HX2⟩ := hcut
    rename_i K1 hK1
    clear HX
    refine hK1 _ _ ?_
    clear hK1 K1
    exact ha42_walk HB1 HI HL HX2
  case first =>
    as_aux_lemma =>
    go_wp2_with fail
    go_loopg [25, 26, 27, 29, 156] mI (fun gk tv sv dv ev iv wr => ∃ (j tq : Nat) (g1 : Nat → Ns), j + gk = mI ∧ tv = .int .i64 (tq : Int) ∧ sv = .int .u8 2 ∧ dv = .bool true ∧ ev = .bool false ∧ iv = .int .i64 (j : Int) ∧ tq ≤ 2 * j ∧ Hid (TkI (on.zip is) f g1 tq ((on.zip is).drop j)) ∧ Hid (Ob v1 d (s1 1 5 f rr 1 all) wr [.row (.slice (some ⟨g, 0, none⟩) 5 c) rfT (refN 5), .box nb i6T (infC g1), .box q rcT #[.slice AN mI cN, .slice AI mI cI, .int .i64 (kk : Int), .int .i64 wy, .int .i64 od, .int .i64 99], .row (.slice AO mI cO) inT (ints2 on), .row (.slice AN mI cN) rfT (on.map rfN), .row (.slice AI mI cI) i6T is, .box mb 4 (mrkC f)]))
    case atStart => exact ⟨0, 0, f, by omega, rfl, rfl, rfl, rfl, rfl, by omega, Lib.hid TkI.begin_, HX⟩
    case round =>
      clear HX
      obtain ⟨j, tq, g1, hj, rfl, rfl, rfl, rfl, rfl, htq, HK, HH⟩ := hrel
      have h6 := HI.out.six
      by_cases hlt : j < mI
      case pos =>
        as_aux_lemma =>
        have i1 : (j : Int) < (mI : Int) := by omega
        have i0 : (0 : Int) ≤ (j : Int) := by omega
        have hkw : IntKind.i64.wrap ((j : Int) + 1) = (j : Int) + 1 := IntWalk.i64_in _ (by omega)
        obtain ⟨x, hx⟩ : ∃ x, on[j]? = some x := ⟨_, List.getElem?_eq_getElem (by rw [HI.out.l1]; exact hlt)⟩
        obtain ⟨y, hy⟩ : ∃ y, is[j]? = some y := ⟨_, List.getElem?_eq_getElem (by rw [HI.out.l2]; exact hlt)⟩
        have hx5 : x < 5 := HI.out.five x (List.mem_of_getElem? hx)
        have x0 : (0 : Int) ≤ (x : Int) := by omega
        have x5 : (x : Int) < 5 := by omega
        have HK2 : Hid (TkI (on.zip is) f g1 tq ((x, y) :: (on.zip is).drop (j + 1))) := by show TkI _ _ _ _ _; rw [← zip_drop hx hy]; exact HK.out
        obtain ⟨go, eO, cO0, -⟩ := HH.out.num (i := 3) (j := j) (z := (x : Int)) rfl (ints2_at hx)
        subst eO
        obtain ⟨gi, eI, cI0, -⟩ := HH.out.num (i := 5) (j := j) (z := y) rfl hy
        subst eI
        have cN0 := HH.out.cell (i := 1) rfl (infC_at g1 hx5)
        have fN0 := HH.out.free (i := 1) rfl x
        have cR := HH.out.cell (i := 2) (j := 1) rfl rfl
        obtain ⟨t1, ht1⟩ : ∃ t1 : Int, (tq : Int) + 1 = t1 := ⟨_, rfl⟩
        have w1 : IntKind.i64.wrap ((tq : Int) + 1) = t1 := by rw [← ht1]; exact IntWalk.i64_in _ (by omega)
        obtain ⟨t2, ht2⟩ : ∃ t2 : Int, (tq : Int) + 2 = t2 := ⟨_, rfl⟩
        have w2 : IntKind.i64.wrap (t1 + 1) = t2 := by rw [← ht1, ← ht2, IntWalk.i64_in _ (by omega)]; omega
        obtain ⟨t3, ht3⟩ : ∃ t3 : Int, (tq : Int) + 3 = t3 := ⟨_, rfl⟩
        have w3 : IntKind.i64.wrap (t2 + 1) = t3 := by rw [← ht2, ← ht3, IntWalk.i64_in _ (by omega)]; omega
        obtain ⟨t4, ht4⟩ : ∃ t4 : Int, (tq : Int) + 4 = t4 := ⟨_, rfl⟩
        have w4 : IntKind.i64.wrap (t3 + 1) = t4 := by rw [← ht3, ← ht4, IntWalk.i64_in _ (by omega)]; omega
        have HT : Hid ((tq : Int) + 1 = t1 ∧ (tq : Int) + 2 = t2 ∧ (tq : Int) + 3 = t3 ∧ (tq : Int) + 4 = t4) := ⟨ht1, ht2, ht3, ht4⟩
        have HJ : Hid (j + gk = mI ∧ tq ≤ 2 * j ∧ mI ≤ 6) := ⟨hj, htq, h6⟩
        clear ht1 ht2 ht3 ht4 HK hx hy h6 htq
        by_cases e1 : (g1 x).inf = y
        case pos =>
          as_aux_lemma =>
          have HE1 := Lib.hid e1
          have HS : Hid (∀ t, Ob v1 d (s1 1 5 f rr 1 all) ((wr.drewN t).setCell ⟨nb, x, none⟩ (.int .i64 1)) [.row (.slice (some ⟨g, 0, none⟩) 5 c) rfT (refN 5), .box nb i6T (infC (upd g1 x { g1 x with inf := 1 })), .box q rcT #[.slice AN mI cN, .slice (some ⟨gi, 0, none⟩) mI cI, .int .i64 (kk : Int), .int .i64 wy, .int .i64 od, .int .i64 99], .row (.slice (some ⟨go, 0, none⟩) mI cO) inT (ints2 on), .row (.slice AN mI cN) rfT (on.map rfN), .row (.slice (some ⟨gi, 0, none⟩) mI cI) i6T is, .box mb 4 (mrkC f)]) := by
            intro t
            have := (HH.out.drewN t).set (i := 1) rfl x (.int .i64 1)
            have e := infC_set g1 hx5 { g1 x with inf := 1 }
            rw [← e]
            exact this
          rw [e1] at cN0
          clear HH e1
          go_upto_region 32 with fail
          go_quiet (fail)
          go_wp2
          go_roundg (gk - 1)
          case measure => omega
          case rel => exact ⟨j + 1, tq + 1, _, by have := HJ.out; omega, by rw [← HT.out.1]; rfl, rfl, rfl, rfl, by go_num, by have := HJ.out; omega, Lib.hid (HK2.out.take HE1.out), Lib.hid (HS.out _)⟩
        case neg =>
          as_aux_lemma =>
          have HE1 := Lib.hid e1
          have HS : Hid (∀ t, Ob v1 d (s1 1 5 f rr 1 all) (wr.drewN t) [.row (.slice (some ⟨g, 0, none⟩) 5 c) rfT (refN 5), .box nb i6T (infC g1), .box q rcT #[.slice AN mI cN, .slice (some ⟨gi, 0, none⟩) mI cI, .int .i64 (kk : Int), .int .i64 wy, .int .i64 od, .int .i64 99], .row (.slice (some ⟨go, 0, none⟩) mI cO) inT (ints2 on), .row (.slice AN mI cN) rfT (on.map rfN), .row (.slice (some ⟨gi, 0, none⟩) mI cI) i6T is, .box mb 4 (mrkC f)]) := fun t => HH.out.drewN t
          by_cases e2 : (g1 x).inf = 1
          case pos =>
            as_aux_lemma =>
            have HE2 := Lib.hid e2
            rw [e2] at cN0 e1
            have n1 : ((1 : Int) == y) = false := by simpa using e1
            clear HH e2
            go_upto_region 32 with fail
            go_quiet (fail)
            go_wp2
            go_roundg (gk - 1)
            case measure => omega
            case rel => exact ⟨j + 1, tq + 2, _, by have := HJ.out; omega, by rw [← HT.out.2.1]; rfl, rfl, rfl, rfl, by go_num, by have := HJ.out; omega, Lib.hid (HK2.out.pass HE1.out HE2.out), Lib.hid (HS.out _)⟩
          case neg =>
            as_aux_lemma =>
            have HE2 := Lib.hid e2
            obtain ⟨z, hz⟩ : ∃ z, (g1 x).inf = z := ⟨_, rfl⟩
            rw [hz] at cN0 e1 e2
            have n1 : (z == y) = false := by simpa using e1
            have n2 : (z == 1) = false := by simpa using e2
            clear HH hz
            cases all with
            | true =>
              as_aux_lemma =>
              go_upto_region 32 with fail
              go_quiet (fail)
              go_wp2
              go_meet
              case rel => exact ⟨g1, tq + 3, 1, true, true, by rw [← HT.out.2.2.1]; rfl, rfl, rfl, rfl, Lib.hid ⟨_, HK2.out.stop HE1.out HE2.out, by have := HJ.out; omega, rfl, rfl, rfl⟩, Lib.hid (HS.out _)⟩
            | false =>
              as_aux_lemma =>
              go_upto_region 32 with fail
              go_quiet (fail)
              go_wp2
              go_meet
              case rel => exact ⟨g1, tq + 4, 0, false, true, by rw [← HT.out.2.2.2]; rfl, rfl, rfl, rfl, Lib.hid ⟨_, HK2.out.stop HE1.out HE2.out, by have := HJ.out; omega, rfl, rfl, rfl⟩, Lib.hid (HS.out _)⟩
      case neg =>
        as_aux_lemma =>
        have i1 : ¬ ((j : Int) < (mI : Int)) := by omega
        have hz : (on.zip is).drop j = [] := List.drop_eq_nil_of_le (by rw [List.length_zip, HI.out.l1, HI.out.l2]; omega)
        have HZ : Hid (oTk 1 (on.zip is) f = (g1, tq, false)) := by
          have := HK.out
          rw [hz] at this
          exact this.done
        have ht : tq ≤ 12 := by omega
        clear hz HK
        go_wp2
        go_meet
        case rel => exact ⟨g1, tq, 2, true, false, rfl, rfl, rfl, rfl, Lib.hid ⟨tq, HZ.out, ht, by simp, rfl, rfl⟩, HH⟩
end Go.Proofs.Ytoeilogakfggfaa
