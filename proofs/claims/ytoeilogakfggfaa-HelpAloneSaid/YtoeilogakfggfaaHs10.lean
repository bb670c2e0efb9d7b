/-
  The law HelpAlone: its regions 58 to 61.
-/
import Derived.Test.YtoeilogakfggfaaHv10
import Derived.Deep.CutBlock
import Derived.Deep.DeepCutAuto
import Derived.Deep.LoopGhost
namespace Go.Proofs.Ytoeilogakfggfaa
open Go.ChangeShapes Go.WideShapes Go.ChangeAt Go.RowKit
set_option linter.unusedVariables false
set_option linter.unusedSimpArgs false
set_option maxRecDepth 20000

set_option maxHeartbeats 8000000 in
theorem ha58_walk {w v1 wc : World} {d : Wd} {g c nb q mb mI cN cI cO kk : Nat} {AN AI AO : Option Addr} {on : List Nat} {is : List Int} {wy od : Int} {rr : Rc} {f : Nat → Ns} {all : Bool} (HB1 : Hid (Below w.heap.size w v1)) (HI : Hid (HAi on is mI kk wy od rr f)) {tc : Nat} {st : Int} {F : Nat → Ns} {x0 x1 : Int} {fb : Nat} {set dn : Bool} {sl0 sl1 sl2 sl3 sl4 sl6 sl7 sl8 sl9 sl10 sl11 sl12 sl16 sl17 sl20 sl21 sl22 sl24 sl30 sl31 sl33 sl34 sl35 sl36 sl37 sl38 sl39 sl40 sl41 sl42 sl43 sl44 sl45 sl46 sl47 sl48 sl49 sl50 sl51 sl52 sl53 sl54 sl55 sl56 sl57 sl58 sl59 sl60 sl61 sl62 sl63 sl64 sl65 sl66 sl67 sl68 sl69 sl70 sl71 sl72 sl73 sl74 sl75 sl76 sl77 sl78 sl79 sl80 sl81 sl82 sl83 sl84 sl85 sl86 sl87 sl88 sl89 sl90 sl91 sl92 sl93 sl94 sl95 sl96 sl97 sl98 sl99 sl100 sl101 sl102 sl103 sl104 sl105 sl106 sl107 sl108 sl109 sl110 sl111 sl112 sl113 sl114 sl115 sl116 sl117 sl118 sl119 sl120 sl121 sl122 sl123 sl124 sl125 sl126 sl127 sl128 sl129 sl130 sl131 sl132 sl133 sl134 sl135 sl136 sl137 sl138 sl139 sl140 sl141 sl142 sl143 sl144 sl145 sl146 sl147 sl148 sl149 sl150 sl151 sl152 sl153 sl154 sl155 sl156 sl157 sl158 sl159 sl160 sl161 sl162 sl163 sl164 sl165 sl166 sl167 sl168 sl169 sl170 sl171 sl172 sl173 sl174 sl175 sl176 sl177 sl178 sl179 sl180 sl181 sl182 sl183 sl184 sl185 sl186 sl187 sl188 sl189 sl190 sl191 sl192 sl193 sl194 sl195 sl196 sl197 sl198 sl199 sl200 sl201 sl202 sl203 sl204 sl205 sl206 sl207 sl208 sl209 sl210 sl211 sl212 sl213 sl214 sl215 sl216 sl217 sl218 sl219 sl220 sl221 sl222 sl223 sl224 sl225 sl226 sl227 sl228 sl229 sl230 sl231 sl232 sl233 sl234 sl235 sl236 sl237 sl238 sl239 sl240 sl241 sl242 sl243 sl244 sl245 sl246 sl247 sl248 sl249 sl250 sl251 sl252 sl253 sl254 sl255 sl256 sl257 sl258 sl259 sl260 sl261 sl262 sl263 sl264 sl265 sl266 sl267 sl268 sl269 sl270 sl271 sl272 sl273 sl274 sl275 sl276 sl277 sl278 sl279 sl280 sl281 sl282 sl283 sl284 sl285 sl286 sl287 sl288 sl289 sl290 sl291 sl292 sl293 sl294 sl295 sl296 sl297 sl298 sl299 sl300 sl301 sl302 sl303 sl304 sl305 sl306 sl307 sl308 sl309 sl310 sl311 sl312 sl313 sl314 sl315 sl316 sl317 sl318 sl319 sl320 sl321 sl322 sl323 sl324 sl325 sl326 sl327 sl328 sl329 sl330 sl331 sl332 sl333 sl334 sl335 sl336 sl337 sl338 sl339 sl340 sl341 sl342 sl343 sl344 sl345 sl346 sl347 sl348 sl349 sl350 sl351 sl352 sl353 sl354 sl355 sl356 sl357 sl358 sl359 sl360 sl361 sl362 sl363 sl364 sl365 sl366 sl367 sl368 sl369 sl370 sl371 sl372 : Value}
    (HX : Hid (Ob v1 d (s1 1 5 f rr 1 all) wc [.row (.slice (some ⟨g, 0, none⟩) 5 c) rfT (refN 5), .box nb i6T (infC F), .box q rcT #[.slice AN mI cN, .slice AI mI cI, .int .i64 (kk : Int), .int .i64 wy, .int .i64 od, .int .i64 99], .row (.slice AO mI cO) inT (ints2 on), .row (.slice AN mI cN) rfT (on.map rfN), .row (.slice AI mI cI) i6T is, .box mb 4 (mrkC F), .box fb arT #[.int .i64 x0, .int .i64 x1]]))
    (HO : Hid (oHelp 1 5 on is (kk : Int) wy od 99 rr 1 all (oTk 1 (on.zip is) f) = (dn, s1 1 5 F rr st dn, tc)))
    (HD : Hid (dn = (all || !set)))
    (HF : Hid (FirstF on F x0 x1)) :
    Code.wp Try.prog ha58 (bodyPost Try.prog Try.f3 (fun e w' => e = .returned (.bool true) ∧ Below w.heap.size w w')) ⟨(sl0 :: sl1 :: sl2 :: sl3 :: sl4 :: .bool all :: sl6 :: sl7 :: sl8 :: sl9 :: sl10 :: sl11 :: sl12 :: ptr d.W :: .slice (some ⟨g, 0, none⟩) 5 c :: .slice (some ⟨nb, 0, none⟩) 5 5 :: sl16 :: sl17 :: .pointer (some ⟨q, 0, none⟩) :: .slice AO mI cO :: sl20 :: sl21 :: sl22 :: .int .i64 1 :: sl24 :: .int .i64 (tc : Int) :: .int .u8 st :: .bool dn :: .slice (some ⟨mb, 0, none⟩) 5 5 :: .bool set :: sl30 :: sl31 :: .pointer (some ⟨fb, 0, none⟩) :: sl33 :: sl34 :: sl35 :: sl36 :: sl37 :: sl38 :: sl39 :: sl40 :: sl41 :: sl42 :: sl43 :: sl44 :: sl45 :: sl46 :: sl47 :: sl48 :: sl49 :: sl50 :: sl51 :: sl52 :: sl53 :: sl54 :: sl55 :: sl56 :: sl57 :: sl58 :: sl59 :: sl60 :: sl61 :: sl62 :: sl63 :: sl64 :: sl65 :: sl66 :: sl67 :: sl68 :: sl69 :: sl70 :: sl71 :: sl72 :: sl73 :: sl74 :: sl75 :: sl76 :: sl77 :: sl78 :: sl79 :: sl80 :: sl81 :: sl82 :: sl83 :: sl84 :: sl85 :: sl86 :: sl87 :: sl88 :: sl89 :: sl90 :: sl91 :: sl92 :: sl93 :: sl94 :: sl95 :: sl96 :: sl97 :: sl98 :: sl99 :: sl100 :: sl101 :: sl102 :: sl103 :: sl104 :: sl105 :: sl106 :: sl107 :: sl108 :: sl109 :: sl110 :: sl111 :: sl112 :: sl113 :: sl114 :: sl115 :: sl116 :: sl117 :: sl118 :: sl119 :: sl120 :: sl121 :: sl122 :: sl123 :: sl124 :: sl125 :: sl126 :: sl127 :: sl128 :: sl129 :: sl130 :: sl131 :: sl132 :: sl133 :: sl134 :: sl135 :: sl136 :: sl137 :: sl138 :: sl139 :: sl140 :: sl141 :: sl142 :: sl143 :: sl144 :: sl145 :: sl146 :: sl147 :: sl148 :: sl149 :: sl150 :: sl151 :: sl152 :: sl153 :: sl154 :: sl155 :: sl156 :: sl157 :: sl158 :: sl159 :: sl160 :: sl161 :: sl162 :: sl163 :: sl164 :: sl165 :: sl166 :: sl167 :: sl168 :: sl169 :: sl170 :: sl171 :: sl172 :: sl173 :: sl174 :: sl175 :: sl176 :: sl177 :: sl178 :: sl179 :: sl180 :: sl181 :: sl182 :: sl183 :: sl184 :: sl185 :: sl186 :: sl187 :: sl188 :: sl189 :: sl190 :: sl191 :: sl192 :: sl193 :: sl194 :: sl195 :: sl196 :: sl197 :: sl198 :: sl199 :: sl200 :: sl201 :: sl202 :: sl203 :: sl204 :: sl205 :: sl206 :: sl207 :: sl208 :: sl209 :: sl210 :: sl211 :: sl212 :: sl213 :: sl214 :: sl215 :: sl216 :: sl217 :: sl218 :: sl219 :: sl220 :: sl221 :: sl222 :: sl223 :: sl224 :: sl225 :: sl226 :: sl227 :: sl228 :: sl229 :: sl230 :: sl231 :: sl232 :: sl233 :: sl234 :: sl235 :: sl236 :: sl237 :: sl238 :: sl239 :: sl240 :: sl241 :: sl242 :: sl243 :: sl244 :: sl245 :: sl246 :: sl247 :: sl248 :: sl249 :: sl250 :: sl251 :: sl252 :: sl253 :: sl254 :: sl255 :: sl256 :: sl257 :: sl258 :: sl259 :: sl260 :: sl261 :: sl262 :: sl263 :: sl264 :: sl265 :: sl266 :: sl267 :: sl268 :: sl269 :: sl270 :: sl271 :: sl272 :: sl273 :: sl274 :: sl275 :: sl276 :: sl277 :: sl278 :: sl279 :: sl280 :: sl281 :: sl282 :: sl283 :: sl284 :: sl285 :: sl286 :: sl287 :: sl288 :: sl289 :: sl290 :: sl291 :: sl292 :: sl293 :: sl294 :: sl295 :: sl296 :: sl297 :: sl298 :: sl299 :: sl300 :: sl301 :: sl302 :: sl303 :: sl304 :: sl305 :: sl306 :: sl307 :: sl308 :: sl309 :: sl310 :: sl311 :: sl312 :: sl313 :: sl314 :: sl315 :: sl316 :: sl317 :: sl318 :: sl319 :: sl320 :: sl321 :: sl322 :: sl323 :: sl324 :: sl325 :: sl326 :: sl327 :: sl328 :: sl329 :: sl330 :: sl331 :: sl332 :: sl333 :: sl334 :: sl335 :: sl336 :: sl337 :: sl338 :: sl339 :: sl340 :: sl341 :: sl342 :: sl343 :: sl344 :: sl345 :: sl346 :: sl347 :: sl348 :: sl349 :: sl350 :: sl351 :: sl352 :: sl353 :: sl354 :: sl355 :: sl356 :: sl357 :: sl358 :: sl359 :: sl360 :: sl361 :: sl362 :: sl363 :: sl364 :: sl365 :: sl366 :: sl367 :: sl368 :: sl369 :: sl370 :: sl371 :: sl372 :: []).toArray, []⟩ wc := by
  conv => arg 2; whnf
  obtain ⟨L, hL⟩ : ∃ L : List Thg, ([.row (.slice (some ⟨g, 0, none⟩) 5 c) rfT (refN 5), .box nb i6T (infC F), .box q rcT #[.slice AN mI cN, .slice AI mI cI, .int .i64 (kk : Int), .int .i64 wy, .int .i64 od, .int .i64 99], .row (.slice AO mI cO) inT (ints2 on), .row (.slice AN mI cN) rfT (on.map rfN), .row (.slice AI mI cI) i6T is, .box mb 4 (mrkC F), .box fb arT #[.int .i64 x0, .int .i64 x1]] : List Thg) = L := ⟨_, rfl⟩
  have HL : Hid (([.row (.slice (some ⟨g, 0, none⟩) 5 c) rfT (refN 5), .box nb i6T (infC F), .box q rcT #[.slice AN mI cN, .slice AI mI cI, .int .i64 (kk : Int), .int .i64 wy, .int .i64 od, .int .i64 99], .row (.slice AO mI cO) inT (ints2 on), .row (.slice AN mI cN) rfT (on.map rfN), .row (.slice AI mI cI) i6T is, .box mb 4 (mrkC F), .box fb arT #[.int .i64 x0, .int .i64 x1]] : List Thg) = L) := hL
  rw [hL] at HX
  clear hL
  have hH := HX.out.helper has1
  obtain ⟨hlo, hhi⟩ := HI.out.few HO.out
  have hkz : ((max tc 1 : Nat) : Int) = (tc : Int) := by omega
  go_wp2_with fail
  refine hH.mono ?_
  rintro e u0 ⟨a, rfl, h0⟩
  have hA := h0.alone (by unfold in64; omega) has1 HI.out.inv HI.out.stt (HI.out.ev HO.out) hhi hkz
  clear hH h0 HX
  go_wp2_with fail
  refine hA.mono ?_
  rintro e u1 ⟨A, q1, c1, T, rfl, h1⟩
  have HY := Lib.hid h1.yes
  clear hA h1 hkz hlo hhi
  go_upto_region 60 with fail
  go_cut [299] (fun tv wx => tv = .bool false ∧ Hid (Of v1 d (s1 1 5 F rr st dn) wx L))
  case first =>
    as_aux_lemma =>
    have hd := HD.out
    clear HI HO HF HL HB1 HD
    cases all <;> cases set <;> simp only [Bool.not_true, Bool.not_false, Bool.or_true, Bool.or_false, Bool.true_or, Bool.false_or] at hd <;> subst hd
    all_goals
      go_wp2_with fail
      refine HY.out.mono ?_
      rintro e u2 ⟨rfl, h2⟩
      obtain ⟨cA, cR⟩ := h2.cells
      have hS := h2.of.state
      have hA := h2.of.all
      have HE := Lib.hid h2.of
      clear h2 HY
      go_wp2_with fail
      refine hS.mono ?_
      rintro e u3 ⟨rfl, rfl⟩
      clear hS
      go_wp2_with fail
      refine hA.mono ?_
      rintro e u4 ⟨rfl, rfl⟩
      clear hA
      go_wp2
      go_meet
      case rel => exact ⟨by first | rfl | simp, HE⟩
  case rest =>
    as_aux_lemma =>
    obtain ⟨rfl, HE⟩ := hcut
    rw [← HL.out] at HE
    rename_i K1 hK1 K2 hK2
    refine hK2 _ _ ?_
    clear hK2 K2
    go_step
    go_step
    refine hK1 _ _ ?_
    clear hK1 K1
    exact ha62_walk HB1 (Lib.hid HI.out.l1) (Lib.hid HI.out.five) HF HE
end Go.Proofs.Ytoeilogakfggfaa
