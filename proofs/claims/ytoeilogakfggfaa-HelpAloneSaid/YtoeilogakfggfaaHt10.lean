/-
  The law HelpAlone: its regions 42 to 44.
-/
import Derived.Test.YtoeilogakfggfaaHw10
import Derived.Deep.CutBlock
import Derived.Deep.DeepCutAuto
import Derived.Deep.LoopGhost
namespace Go.Proofs.Ytoeilogakfggfaa
open Go.ChangeShapes Go.WideShapes Go.ChangeAt Go.RowKit
set_option linter.unusedVariables false
set_option linter.unusedSimpArgs false
set_option maxRecDepth 20000

set_option maxHeartbeats 16000000 in
theorem ha42_walk {w v1 wc : World} {d : Wd} {g c nb q mb mI cN cI cO kk : Nat} {AN AI AO : Option Addr} {on : List Nat} {is : List Int} {wy od : Int} {rr : Rc} {f : Nat → Ns} {all : Bool} (HB1 : Hid (Below w.heap.size w v1)) (HI : Hid (HAi on is mI kk wy od rr f)) {tc : Nat} {st : Int} {g1 : Nat → Ns} {set dn : Bool} {sl0 sl1 sl2 sl3 sl4 sl6 sl7 sl8 sl9 sl10 sl11 sl12 sl16 sl17 sl20 sl21 sl22 sl24 sl30 sl31 sl32 sl33 sl34 sl35 sl36 sl37 sl38 sl39 sl40 sl41 sl42 sl43 sl44 sl45 sl46 sl47 sl48 sl49 sl50 sl51 sl52 sl53 sl54 sl55 sl56 sl57 sl58 sl59 sl60 sl61 sl62 sl63 sl64 sl65 sl66 sl67 sl68 sl69 sl70 sl71 sl72 sl73 sl74 sl75 sl76 sl77 sl78 sl79 sl80 sl81 sl82 sl83 sl84 sl85 sl86 sl87 sl88 sl89 sl90 sl91 sl92 sl93 sl94 sl95 sl96 sl97 sl98 sl99 sl100 sl101 sl102 sl103 sl104 sl105 sl106 sl107 sl108 sl109 sl110 sl111 sl112 sl113 sl114 sl115 sl116 sl117 sl118 sl119 sl120 sl121 sl122 sl123 sl124 sl125 sl126 sl127 sl128 sl129 sl130 sl131 sl132 sl133 sl134 sl135 sl136 sl137 sl138 sl139 sl140 sl141 sl142 sl143 sl144 sl145 sl146 sl147 sl148 sl149 sl150 sl151 sl152 sl153 sl154 sl155 sl156 sl157 sl158 sl159 sl160 sl161 sl162 sl163 sl164 sl165 sl166 sl167 sl168 sl169 sl170 sl171 sl172 sl173 sl174 sl175 sl176 sl177 sl178 sl179 sl180 sl181 sl182 sl183 sl184 sl185 sl186 sl187 sl188 sl189 sl190 sl191 sl192 sl193 sl194 sl195 sl196 sl197 sl198 sl199 sl200 sl201 sl202 sl203 sl204 sl205 sl206 sl207 sl208 sl209 sl210 sl211 sl212 sl213 sl214 sl215 sl216 sl217 sl218 sl219 sl220 sl221 sl222 sl223 sl224 sl225 sl226 sl227 sl228 sl229 sl230 sl231 sl232 sl233 sl234 sl235 sl236 sl237 sl238 sl239 sl240 sl241 sl242 sl243 sl244 sl245 sl246 sl247 sl248 sl249 sl250 sl251 sl252 sl253 sl254 sl255 sl256 sl257 sl258 sl259 sl260 sl261 sl262 sl263 sl264 sl265 sl266 sl267 sl268 sl269 sl270 sl271 sl272 sl273 sl274 sl275 sl276 sl277 sl278 sl279 sl280 sl281 sl282 sl283 sl284 sl285 sl286 sl287 sl288 sl289 sl290 sl291 sl292 sl293 sl294 sl295 sl296 sl297 sl298 sl299 sl300 sl301 sl302 sl303 sl304 sl305 sl306 sl307 sl308 sl309 sl310 sl311 sl312 sl313 sl314 sl315 sl316 sl317 sl318 sl319 sl320 sl321 sl322 sl323 sl324 sl325 sl326 sl327 sl328 sl329 sl330 sl331 sl332 sl333 sl334 sl335 sl336 sl337 sl338 sl339 sl340 sl341 sl342 sl343 sl344 sl345 sl346 sl347 sl348 sl349 sl350 sl351 sl352 sl353 sl354 sl355 sl356 sl357 sl358 sl359 sl360 sl361 sl362 sl363 sl364 sl365 sl366 sl367 sl368 sl369 sl370 sl371 sl372 : Value}
    (HL3 : Hid (L3 on is f all g1 tc st dn set))
    (HX : Hid (Ob v1 d (s1 1 5 f rr 1 all) wc [.row (.slice (some ⟨g, 0, none⟩) 5 c) rfT (refN 5), .box nb i6T (infC g1), .box q rcT #[.slice AN mI cN, .slice AI mI cI, .int .i64 (kk : Int), .int .i64 wy, .int .i64 od, .int .i64 99], .row (.slice AO mI cO) inT (ints2 on), .row (.slice AN mI cN) rfT (on.map rfN), .row (.slice AI mI cI) i6T is, .box mb 4 (mrkC f)])) :
    Code.wp Try.prog ha42 (bodyPost Try.prog Try.f3 (fun e w' => e = .returned (.bool true) ∧ Below w.heap.size w w')) ⟨(sl0 :: sl1 :: sl2 :: sl3 :: sl4 :: .bool all :: sl6 :: sl7 :: sl8 :: sl9 :: sl10 :: sl11 :: sl12 :: ptr d.W :: .slice (some ⟨g, 0, none⟩) 5 c :: .slice (some ⟨nb, 0, none⟩) 5 5 :: sl16 :: sl17 :: .pointer (some ⟨q, 0, none⟩) :: .slice AO mI cO :: sl20 :: sl21 :: sl22 :: .int .i64 1 :: sl24 :: .int .i64 (tc : Int) :: .int .u8 st :: .bool dn :: .slice (some ⟨mb, 0, none⟩) 5 5 :: .bool set :: sl30 :: sl31 :: sl32 :: sl33 :: sl34 :: sl35 :: sl36 :: sl37 :: sl38 :: sl39 :: sl40 :: sl41 :: sl42 :: sl43 :: sl44 :: sl45 :: sl46 :: sl47 :: sl48 :: sl49 :: sl50 :: sl51 :: sl52 :: sl53 :: sl54 :: sl55 :: sl56 :: sl57 :: sl58 :: sl59 :: sl60 :: sl61 :: sl62 :: sl63 :: sl64 :: sl65 :: sl66 :: sl67 :: sl68 :: sl69 :: sl70 :: sl71 :: sl72 :: sl73 :: sl74 :: sl75 :: sl76 :: sl77 :: sl78 :: sl79 :: sl80 :: sl81 :: sl82 :: sl83 :: sl84 :: sl85 :: sl86 :: sl87 :: sl88 :: sl89 :: sl90 :: sl91 :: sl92 :: sl93 :: sl94 :: sl95 :: sl96 :: sl97 :: sl98 :: sl99 :: sl100 :: sl101 :: sl102 :: sl103 :: sl104 :: sl105 :: sl106 :: sl107 :: sl108 :: sl109 :: sl110 :: sl111 :: sl112 :: sl113 :: sl114 :: sl115 :: sl116 :: sl117 :: sl118 :: sl119 :: sl120 :: sl121 :: sl122 :: sl123 :: sl124 :: sl125 :: sl126 :: sl127 :: sl128 :: sl129 :: sl130 :: sl131 :: sl132 :: sl133 :: sl134 :: sl135 :: sl136 :: sl137 :: sl138 :: sl139 :: sl140 :: sl141 :: sl142 :: sl143 :: sl144 :: sl145 :: sl146 :: sl147 :: sl148 :: sl149 :: sl150 :: sl151 :: sl152 :: sl153 :: sl154 :: sl155 :: sl156 :: sl157 :: sl158 :: sl159 :: sl160 :: sl161 :: sl162 :: sl163 :: sl164 :: sl165 :: sl166 :: sl167 :: sl168 :: sl169 :: sl170 :: sl171 :: sl172 :: sl173 :: sl174 :: sl175 :: sl176 :: sl177 :: sl178 :: sl179 :: sl180 :: sl181 :: sl182 :: sl183 :: sl184 :: sl185 :: sl186 :: sl187 :: sl188 :: sl189 :: sl190 :: sl191 :: sl192 :: sl193 :: sl194 :: sl195 :: sl196 :: sl197 :: sl198 :: sl199 :: sl200 :: sl201 :: sl202 :: sl203 :: sl204 :: sl205 :: sl206 :: sl207 :: sl208 :: sl209 :: sl210 :: sl211 :: sl212 :: sl213 :: sl214 :: sl215 :: sl216 :: sl217 :: sl218 :: sl219 :: sl220 :: sl221 :: sl222 :: sl223 :: sl224 :: sl225 :: sl226 :: sl227 :: sl228 :: sl229 :: sl230 :: sl231 :: sl232 :: sl233 :: sl234 :: sl235 :: sl236 :: sl237 :: sl238 :: sl239 :: sl240 :: sl241 :: sl242 :: sl243 :: sl244 :: sl245 :: sl246 :: sl247 :: sl248 :: sl249 :: sl250 :: sl251 :: sl252 :: sl253 :: sl254 :: sl255 :: sl256 :: sl257 :: sl258 :: sl259 :: sl260 :: sl261 :: sl262 :: sl263 :: sl264 :: sl265 :: sl266 :: sl267 :: sl268 :: sl269 :: sl270 :: sl271 :: sl272 :: sl273 :: sl274 :: sl275 :: sl276 :: sl277 :: sl278 :: sl279 :: sl280 :: sl281 :: sl282 :: sl283 :: sl284 :: sl285 :: sl286 :: sl287 :: sl288 :: sl289 :: sl290 :: sl291 :: sl292 :: sl293 :: sl294 :: sl295 :: sl296 :: sl297 :: sl298 :: sl299 :: sl300 :: sl301 :: sl302 :: sl303 :: sl304 :: sl305 :: sl306 :: sl307 :: sl308 :: sl309 :: sl310 :: sl311 :: sl312 :: sl313 :: sl314 :: sl315 :: sl316 :: sl317 :: sl318 :: sl319 :: sl320 :: sl321 :: sl322 :: sl323 :: sl324 :: sl325 :: sl326 :: sl327 :: sl328 :: sl329 :: sl330 :: sl331 :: sl332 :: sl333 :: sl334 :: sl335 :: sl336 :: sl337 :: sl338 :: sl339 :: sl340 :: sl341 :: sl342 :: sl343 :: sl344 :: sl345 :: sl346 :: sl347 :: sl348 :: sl349 :: sl350 :: sl351 :: sl352 :: sl353 :: sl354 :: sl355 :: sl356 :: sl357 :: sl358 :: sl359 :: sl360 :: sl361 :: sl362 :: sl363 :: sl364 :: sl365 :: sl366 :: sl367 :: sl368 :: sl369 :: sl370 :: sl371 :: sl372 :: []).toArray, []⟩ wc := by
  conv => arg 2; whnf
  obtain ⟨Y, fb, Z, hY, hfb, z0, z1, z2, z3, hZ, hO⟩ := HX.out.pair
  have HZ : Hid (Ob v1 d (s1 1 5 f rr 1 all) Z [.row (.slice (some ⟨g, 0, none⟩) 5 c) rfT (refN 5), .box nb i6T (infC g1), .box q rcT #[.slice AN mI cN, .slice AI mI cI, .int .i64 (kk : Int), .int .i64 wy, .int .i64 od, .int .i64 99], .row (.slice AO mI cO) inT (ints2 on), .row (.slice AN mI cN) rfT (on.map rfN), .row (.slice AI mI cI) i6T is, .box mb 4 (mrkC f), .box fb arT #[.int .i64 0, .int .i64 0]]) := hO
  clear hO HX
  go_upto_if 196 with fail
  (try rw [hY]); (try rw [hfb]); (try rw [hZ])
  clear hY hfb hZ z0 z1 z2 z3
  go_cut [] (fun wx => ∃ x0 x1 : Int, Hid (FirstI on x0 x1) ∧ Hid (Ob v1 d (s1 1 5 f rr 1 all) wx [.row (.slice (some ⟨g, 0, none⟩) 5 c) rfT (refN 5), .box nb i6T (infC g1), .box q rcT #[.slice AN mI cN, .slice AI mI cI, .int .i64 (kk : Int), .int .i64 wy, .int .i64 od, .int .i64 99], .row (.slice AO mI cO) inT (ints2 on), .row (.slice AN mI cN) rfT (on.map rfN), .row (.slice AI mI cI) i6T is, .box mb 4 (mrkC f), .box fb arT #[.int .i64 x0, .int .i64 x1]]))
  case first =>
    as_aux_lemma =>
    cases on with
    | nil =>
      as_aux_lemma =>
      obtain rfl : mI = 0 := HI.out.l1.symm
      have HN : Hid (FirstI [] 0 0) := fun x l e => (by cases e)
      clear HI HL3
      go_wp2
      go_meet
      case rel => exact ⟨0, 0, HN, HZ⟩
    | cons x l =>
      as_aux_lemma =>
      have hp : (0 : Int) < (mI : Int) := by have := HI.out.l1; simp at this; omega
      have hp2 : 0 < mI := by omega
      have hp3 : ¬ mI = 0 := by omega
      have hx5 : x < 5 := HI.out.five x (List.mem_cons_self ..)
      obtain ⟨go, eO, cO0, -⟩ := HZ.out.num (i := 3) (j := 0) (z := (x : Int)) rfl rfl
      subst eO
      have o4 : IntKind.i64.wrap (10 * (x : Int)) = 10 * (x : Int) := IntWalk.i64_in _ (by omega)
      obtain ⟨x0, hx0⟩ : ∃ x0 : Int, 200 + 10 * (x : Int) = x0 := ⟨_, rfl⟩
      obtain ⟨x1, hx1⟩ : ∃ x1 : Int, 201 + 10 * (x : Int) = x1 := ⟨_, rfl⟩
      have o5 : IntKind.i64.wrap (200 + 10 * (x : Int)) = x0 := by rw [IntWalk.i64_in _ (by omega)]; exact hx0
      have o6 : IntKind.i64.wrap (201 + 10 * (x : Int)) = x1 := by rw [IntWalk.i64_in _ (by omega)]; exact hx1
      have HN : Hid (FirstI (x :: l) x0 x1) := fun y l' e => by injection e with e1 e2; subst e1; exact ⟨hx0.symm, hx1.symm⟩
      clear hx0 hx1 HI HL3
      go_upto_region 44 with fail
      obtain ⟨V0, hV0, bV0⟩ : ∃ V0 : World, Z.drew = V0 ∧ Below Z.heap.size Z V0 := ⟨_, rfl, (Below.refl _ Z).drew⟩
      refine region_T (fun k => Nat.ble 11 k) (fun w' => w'.cell? ⟨go, 0, none⟩ = some (.int .i64 (x : Int))) (by kernel_rfl) ?_
      rw [hV0]
      have HV := Lib.hid (HZ.out.below bV0)
      have hC : V0.cell? ⟨go, 0, none⟩ = some (.int .i64 (x : Int)) := below_read bV0 cO0
      have fF0 := HV.out.free (i := 7) rfl 0
      have fF1 := HV.out.free (i := 7) rfl 1
      have cF0 := HV.out.cell (i := 7) (j := 0) rfl rfl
      have cF1 := HV.out.cell (i := 7) (j := 1) rfl rfl
      have HS := Lib.hid (HV.out.put2 (i := 7) (u' := .int .i64 x0) (v' := .int .i64 x1) rfl)
      clear hV0 bV0 HZ HV cO0
      refine takeX 0 197 (v := ?_) rfl rfl (by kernel_rfl) (by kernel_rfl) (by kernel_rfl) (by kernel_rfl) (by kernel_rfl) (fun _ _ _ _ h => h) hC (by rfl) ?_ ?_
      rotate_left
      · intro w hSw; (try dsimp only at hSw); go_simp; try (with_reducible rfl)
      simp only [List.setIfInBounds_toArray, List.set_cons_zero, List.set_cons_succ]
      refine takeX 1 198 (v := ?_) rfl rfl (by kernel_rfl) (by kernel_rfl) (by kernel_rfl) (by kernel_rfl) (by kernel_rfl) (fun _ _ _ _ h => h) hC (by rfl) ?_ ?_
      rotate_left
      · intro w hSw; (try dsimp only at hSw); go_simp; try (with_reducible rfl)
      simp only [List.setIfInBounds_toArray, List.set_cons_zero, List.set_cons_succ]
      refine takeX 2 199 (v := ?_) rfl rfl (by kernel_rfl) (by kernel_rfl) (by kernel_rfl) (by kernel_rfl) (by kernel_rfl) (fun _ _ _ _ h => h) hC (by rfl) ?_ ?_
      rotate_left
      · intro w hSw; (try dsimp only at hSw); go_simp; try (with_reducible rfl)
      simp only [List.setIfInBounds_toArray, List.set_cons_zero, List.set_cons_succ]
      refine takeX 3 200 (v := ?_) rfl rfl (by kernel_rfl) (by kernel_rfl) (by kernel_rfl) (by kernel_rfl) (by kernel_rfl) (fun _ _ _ _ h => h) hC (by rfl) ?_ ?_
      rotate_left
      · intro w hSw; (try dsimp only at hSw); go_simp; try (with_reducible rfl)
      simp only [List.setIfInBounds_toArray, List.set_cons_zero, List.set_cons_succ]
      refine takeX 4 201 (v := ?_) rfl rfl (by kernel_rfl) (by kernel_rfl) (by kernel_rfl) (by kernel_rfl) (by kernel_rfl) (fun _ _ _ _ h => h) hC (by rfl) ?_ ?_
      rotate_left
      · intro w hSw; (try dsimp only at hSw); go_simp; try (with_reducible rfl)
      simp only [List.setIfInBounds_toArray, List.set_cons_zero, List.set_cons_succ]
      refine takeX 5 202 (v := ?_) rfl rfl (by kernel_rfl) (by kernel_rfl) (by kernel_rfl) (by kernel_rfl) (by kernel_rfl) (fun _ _ _ _ h => h) hC (by rfl) ?_ ?_
      rotate_left
      · intro w hSw; (try dsimp only at hSw); go_simp; try (with_reducible rfl)
      simp only [List.setIfInBounds_toArray, List.set_cons_zero, List.set_cons_succ]
      refine takeX 6 203 (v := ?_) rfl rfl (by kernel_rfl) (by kernel_rfl) (by kernel_rfl) (by kernel_rfl) (by kernel_rfl) (fun _ _ _ _ h => h) hC (by rfl) ?_ ?_
      rotate_left
      · intro w hSw; (try dsimp only at hSw); go_simp; try (with_reducible rfl)
      simp only [List.setIfInBounds_toArray, List.set_cons_zero, List.set_cons_succ]
      refine takeX 7 204 (v := ?_) rfl rfl (by kernel_rfl) (by kernel_rfl) (by kernel_rfl) (by kernel_rfl) (by kernel_rfl) (fun _ _ _ _ h => h) hC (by rfl) ?_ ?_
      rotate_left
      · intro w hSw; (try dsimp only at hSw); go_simp; try (with_reducible rfl)
      simp only [List.setIfInBounds_toArray, List.set_cons_zero, List.set_cons_succ]
      refine takeX 8 205 (v := ?_) rfl rfl (by kernel_rfl) (by kernel_rfl) (by kernel_rfl) (by kernel_rfl) (by kernel_rfl) (fun _ _ _ _ h => h) hC (by rfl) ?_ ?_
      rotate_left
      · intro w hSw; (try dsimp only at hSw); go_simp; try (with_reducible rfl)
      simp only [List.setIfInBounds_toArray, List.set_cons_zero, List.set_cons_succ]
      refine takeX 9 206 (v := ?_) rfl rfl (by kernel_rfl) (by kernel_rfl) (by kernel_rfl) (by kernel_rfl) (by kernel_rfl) (fun _ _ _ _ h => h) hC (by rfl) ?_ ?_
      rotate_left
      · intro w hSw; (try dsimp only at hSw); go_simp; try (with_reducible rfl)
      simp only [List.setIfInBounds_toArray, List.set_cons_zero, List.set_cons_succ]
      refine takeX 10 207 (v := ?_) rfl rfl (by kernel_rfl) (by kernel_rfl) (by kernel_rfl) (by kernel_rfl) (by kernel_rfl) (fun _ _ _ _ h => h) hC (by rfl) ?_ ?_
      rotate_left
      · intro w hSw; (try dsimp only at hSw); go_simp; try (with_reducible rfl)
      simp only [List.setIfInBounds_toArray, List.set_cons_zero, List.set_cons_succ]
      clear hC
      refine oneT (i := 11) (by kernel_rfl) rfl (by rfl) (fun KK hK => ?_)
      go_simp
      refine hK.out _ _ (fun h => absurd h (by decide)) ?_
      clear hK KK
      try simp only [Act.put, List.setIfInBounds_toArray, List.set_cons_zero, List.set_cons_succ]
      refine doneT (by kernel_rfl) ?_
      go_wp2
      go_meet
      case rel => exact ⟨x0, x1, HN, HS⟩
  case rest =>
    as_aux_lemma =>
    obtain ⟨x0, x1, HN, HX⟩ := hcut
    clear HZ
    rename_i K1 hK1
    refine hK1 _ _ ?_
    clear hK1 K1
    exact ha45_walk HB1 HI HL3 HN HX
end Go.Proofs.Ytoeilogakfggfaa
