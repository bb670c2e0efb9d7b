/-
  What help's touches do: the closures that take, settle, finish and set hand to the thread; help.Record as a tree of touches.
-/
import Derived.Test.YtmhmgdpcibldlaaTp8
namespace Go.Proofs.Ytmhmgdpcibldlaa
open Go.ChangeShapes Go.WideShapes Go.ChangeAt Go.RowKit
set_option linter.unusedVariables false
set_option linter.unusedSimpArgs false
set_option maxRecDepth 20000

def tTake (node was n : Int) : Tr Bool := .tch (gSwapInfo node was n) fun z => if (z != 0) = true then .ret true else .tch (gInfo node) fun y => .ret (y == n)
def tSet (n t : Int) : Tr Unit := .tch (gSet n t) fun _ => .ret ()
def tSettle (n : Int) : Tr Bool := .tch (gAll n) fun z => if (z != 0) = true then .ret true else (tSet n 0).bind fun _ => .ret false
def tMarks (F : Tr Unit) : List Int → Tr Unit
  | [] => F
  | r :: l => .tch (gSetMark r) fun _ => tMarks F l
def tWay (r : Rc) (F : Tr Unit) : Tr Unit := match r.ns with
  | [] => F
  | x :: _ => .tch (gSwapWay x r.wy r.od r.nw) fun _ => F
def tFinish (r : Rc) (n : Int) : Tr Unit := .tch (gSetAll n) fun _ => tMarks (tWay r (tSet n 2)) (r.ns.drop (min r.kp.toNat r.ns.length))
def tTakes (r : Rc) (n : Int) : List (Int × Int) → Tr Bool
  | [] => (tFinish r n).bind fun _ => .ret true
  | p :: l => (tTake p.1 p.2 n).bind fun b => if b = true then tTakes r n l else tSettle n
def tHelp (r : Rc) (n : Int) : Tr Bool := tTakes r n (r.ns.zip r.is)
section
variable {d : Wd} {FW R : Nat → Prop} {w w' : World} {s : Sig} {B C D E a me i : Nat} {n r o k : Int}
theorem nxW_swapInfo (h : WS d FW w s) (hok : Ok s.ar) (r o n : Int) : Calls Try.prog 13 #[ptr d.A, .int .i64 r, .int .i64 o, .int .i64 n] w fun e w' => e = .returned (boolV (gSwapInfo r o n s).1) ∧ NxW d FW w (gSwapInfo r o n s).2 w' := by
  obtain ⟨FA, h1, h2, h3⟩ := h.ar
  cases hh : s.ar.hit r with
  | some ip =>
    obtain ⟨i, p⟩ := ip
    obtain ⟨k1, k2, k3⟩ := hit_some hh
    by_cases ho : p.info = o
    · refine (swapInfo_yes h1 hok k1 k2 k3 o n ho).mono ?_
      rintro e w' ⟨rfl, q1, q2⟩
      simp only [gSwapInfo, gAr, As.with, hh, if_pos ho]
      exact ⟨rfl, h3 _ _ (Nx.of q1 q2)⟩
    · refine (swapInfo_not h1 hok k1 k2 k3 o n ho).mono ?_
      rintro e w' ⟨rfl, rfl⟩
      simp only [gSwapInfo, gAr, As.with, hh, if_neg ho]
      exact ⟨rfl, NxW.same h⟩
  | none =>
    refine (swapInfo_no h1 hok (hit_none hok hh) o n).mono ?_
    rintro e w' ⟨rfl, q1, q2⟩
    simp only [gSwapInfo, gAr, As.with, hh]
    exact ⟨rfl, h3 _ _ (Nx.of q1 q2)⟩
theorem nxW_info (h : WS d FW w s) (hok : Ok s.ar) (r : Int) : Calls Try.prog 21 #[ptr d.A, .int .i64 r] w fun e w' => e = .returned (intV (gInfo r s).1) ∧ NxW d FW w (gInfo r s).2 w' := by
  obtain ⟨FA, h1, h2, h3⟩ := h.ar
  cases hh : s.ar.hit r with
  | some ip =>
    obtain ⟨i, p⟩ := ip
    obtain ⟨k1, k2, k3⟩ := hit_some hh
    refine (info_yes h1 hok k1 k2 k3).mono ?_
    rintro e w' ⟨rfl, rfl⟩
    simp only [gInfo, gAr, As.with, hh]
    exact ⟨trivial, NxW.same h⟩
  | none =>
    refine (info_no h1 hok (hit_none hok hh)).mono ?_
    rintro e w' ⟨rfl, q1, q2⟩
    simp only [gInfo, gAr, As.with, hh]
    exact ⟨trivial, h3 _ _ (Nx.of q1 q2)⟩
theorem nxW_setMark (h : WS d FW w s) (hok : Ok s.ar) (r : Int) : Calls Try.prog 27 #[ptr d.A, .int .i64 r] w fun e w' => e = .returned (.tuple #[]) ∧ NxW d FW w (gSetMark r s).2 w' := by
  obtain ⟨FA, h1, h2, h3⟩ := h.ar
  cases hh : s.ar.hit r with
  | some ip =>
    obtain ⟨i, p⟩ := ip
    obtain ⟨k1, k2, k3⟩ := hit_some hh
    refine (setMark_yes h1 hok k1 k2 k3).mono ?_
    rintro e w' ⟨rfl, q1, q2⟩
    simp only [gSetMark, gAr, As.with, hh]
    exact ⟨trivial, h3 _ _ (Nx.of q1 q2)⟩
  | none =>
    refine (setMark_no h1 hok (hit_none hok hh)).mono ?_
    rintro e w' ⟨rfl, q1, q2⟩
    simp only [gSetMark, gAr, As.with, hh]
    exact ⟨trivial, h3 _ _ (Nx.of q1 q2)⟩
theorem nxW_swapWay (h : WS d FW w s) (hok : Ok s.ar) (r k o n : Int) : Calls Try.prog 103 #[ptr d.A, .int .i64 r, .int .i64 k, .int .i64 o, .int .i64 n] w fun e w' => e = .returned (boolV (gSwapWay r k o n s).1) ∧ NxW d FW w (gSwapWay r k o n s).2 w' := by
  obtain ⟨FA, h1, h2, h3⟩ := h.ar
  cases hh : s.ar.hit r with
  | some ip =>
    obtain ⟨i, p⟩ := ip
    obtain ⟨k1, k2, k3⟩ := hit_some hh
    by_cases hy : hasB p.ws.length k = true ∧ wayAt p k = o
    · obtain ⟨j, rfl, hj⟩ := hasB_nat hy.1
      refine (swapWay_do h1 hok k1 k2 k3 j o n hj hy.2).mono ?_
      rintro e w' ⟨rfl, q1, q2⟩
      simp only [gSwapWay, gAr, As.with, hh, if_pos hy, Int.toNat_natCast]
      exact ⟨rfl, h3 _ _ (Nx.of q1 q2)⟩
    · refine (swapWay_not h1 hok k1 k2 k3 k o n hy).mono ?_
      rintro e w' ⟨rfl, rfl⟩
      simp only [gSwapWay, gAr, As.with, hh, if_neg hy]
      exact ⟨rfl, NxW.same h⟩
  | none =>
    refine (swapWay_no h1 hok (hit_none hok hh) k o n).mono ?_
    rintro e w' ⟨rfl, q1, q2⟩
    simp only [gSwapWay, gAr, As.with, hh]
    exact ⟨rfl, h3 _ _ (Nx.of q1 q2)⟩
theorem rcAt_some {l : List Re} {i : Nat} {x : Re} (h : rcAt l n = some (i, x)) : l[i]? = some x ∧ n = (i : Int) + 1 := by
  unfold rcAt at h
  split at h
  · cases h
  · split at h
    · rename_i h1 y hy
      injection h with h
      injection h with h2 h3
      subst h2 h3
      exact ⟨hy, by omega⟩
    · cases h
theorem rcAt_none {l : List Re} (h : rcAt l n = none) : n < 1 ∨ (l.length : Int) < n := by
  unfold rcAt at h
  split at h
  · rename_i h1; exact .inl h1
  · split at h
    · cases h
    · rename_i h1 hy
      have := List.getElem?_eq_none_iff.1 hy
      omega
theorem it_at {l : List It} {rs : List Re} (h : l.map It.re = rs) {x : Re} (hx : rs[i]? = some x) : ∃ y, l[i]? = some y ∧ y.re = x := by
  rw [← h, List.getElem?_map] at hx
  cases hy : l[i]? with
  | none => rw [hy] at hx; cases hx
  | some y => rw [hy] at hx; injection hx with hx; exact ⟨y, rfl, hx⟩
theorem len_it {l : List It} {rs : List Re} (h : l.map It.re = rs) : l.length = rs.length := by rw [← h, List.length_map]
theorem nxW_all (h : WS d FW w s) (hl : s.rs.length ≤ 1000) (n : Int) : Calls Try.prog 20 #[ptr d.R, .int .i64 n] w fun e w' => e = .returned (boolV (gAll n s).1) ∧ NxW d FW w (gAll n s).2 w' := by
  obtain ⟨FT, ⟨l, P, h1, h2⟩, -, -⟩ := h.rc
  cases hh : rcAt s.rs n with
  | some ix =>
    obtain ⟨i, x⟩ := ix
    obtain ⟨k1, k2⟩ := rcAt_some hh
    obtain ⟨y, y1, y2⟩ := it_at h2 k1
    refine (recAll_yes h1 y1 k2 (by rw [len_it h2]; omega)).mono ?_
    rintro e w' ⟨rfl, rfl⟩
    simp only [gAll, hh, ← y2, It.re]
    exact ⟨by cases y.all <;> rfl, NxW.same h⟩
  | none =>
    refine (recAll_no h1 (by rw [len_it h2]; exact rcAt_none hh)).mono ?_
    rintro e w' ⟨rfl, rfl⟩
    simp only [gAll, hh]
    exact ⟨rfl, NxW.same h⟩
theorem nxW_setAll (h : WS d FW w s) (hl : s.rs.length ≤ 1000) (n : Int) : Calls Try.prog 15 #[ptr d.R, .int .i64 n] w fun e w' => e = .returned (.tuple #[]) ∧ NxW d FW w (gSetAll n s).2 w' := by
  obtain ⟨FT, ⟨l, P, h1, h2⟩, -, h3⟩ := h.rc
  cases hh : rcAt s.rs n with
  | some ix =>
    obtain ⟨i, x⟩ := ix
    obtain ⟨k1, k2⟩ := rcAt_some hh
    obtain ⟨y, y1, y2⟩ := it_at h2 k1
    refine (setAll_yes h1 y1 k2 (by rw [len_it h2]; omega)).mono ?_
    rintro e w' ⟨rfl, q1, q2⟩
    simp only [gSetAll, setRe, hh, ← y2]
    exact ⟨trivial, h3 _ _ ⟨FT, ⟨_, _, q1, by rw [List.map_set, h2]; rfl⟩, q2, fun b e => .inl e⟩⟩
  | none =>
    refine (setAll_no h1 (by rw [len_it h2]; exact rcAt_none hh)).mono ?_
    rintro e w' ⟨rfl, rfl⟩
    simp only [gSetAll, setRe, hh]
    exact ⟨trivial, NxW.same h⟩
theorem nxW_set (h : WS d FW w s) (hl : s.rs.length ≤ 1000) (n t : Int) : Calls Try.prog 26 #[ptr d.R, .int .i64 n, .int .u8 t] w fun e w' => e = .returned (.tuple #[]) ∧ NxW d FW w (gSet n t s).2 w' := by
  obtain ⟨FT, ⟨l, P, h1, h2⟩, -, h3⟩ := h.rc
  cases hh : rcAt s.rs n with
  | some ix =>
    obtain ⟨i, x⟩ := ix
    obtain ⟨k1, k2⟩ := rcAt_some hh
    obtain ⟨y, y1, y2⟩ := it_at h2 k1
    refine (recSet_yes h1 y1 k2 (by rw [len_it h2]; omega) t).mono ?_
    rintro e w' ⟨rfl, q1, q2⟩
    simp only [gSet, setRe, hh, ← y2]
    exact ⟨trivial, h3 _ _ ⟨FT, ⟨_, _, q1, by rw [List.map_set, h2]; rfl⟩, q2, fun b e => .inl e⟩⟩
  | none =>
    refine (recSet_no h1 (by rw [len_it h2]; exact rcAt_none hh) t).mono ?_
    rintro e w' ⟨rfl, rfl⟩
    simp only [gSet, setRe, hh]
    exact ⟨trivial, NxW.same h⟩
theorem nxW_rlook (h : WS d FW w s) (hl : s.rs.length ≤ 1000) (n : Int) : Calls Try.prog 77 #[ptr d.R, .int .i64 n] w (MadeR w (rcOf s.rs n)) := by
  obtain ⟨FT, ⟨l, P, h1, h2⟩, -, -⟩ := h.rc
  cases hh : rcAt s.rs n with
  | some ix =>
    obtain ⟨i, x⟩ := ix
    obtain ⟨k1, k2⟩ := rcAt_some hh
    obtain ⟨y, y1, y2⟩ := it_at h2 k1
    have := recLook_yes h1 y1 k2 (by rw [len_it h2]; omega)
    simp only [rcOf, hh, ← y2, It.re]
    exact this
  | none =>
    simp only [rcOf, hh]
    exact recLook_no h1 (by rw [len_it h2]; exact rcAt_none hh)

/-- The closures. -/
theorem take1_walk (h : WS d FW w s) (hf : Fit s) (hB : Tk w B a d.W me) (hC : w.cell? ⟨C, 0, none⟩ = some (.int .i64 r)) (hD : w.cell? ⟨D, 0, none⟩ = some (.int .i64 o)) (hE : w.cell? ⟨E, 0, none⟩ = some (.int .i64 n)) :
    Calls Try.prog 95 #[ptr B, ptr C, ptr D, ptr E] w fun e w' => e = .returned (boolV (gSwapInfo r o n s).1) ∧ NxW d FW w (gSwapInfo r o n s).2 w' := by
  have h0 := hB.c1
  have h2 := h.cells.1
  have HS := Lib.hid (nxW_swapInfo (drew_W h) hf.ok r o n)
  have hC0 : w.drew.cell? ⟨B, 1, none⟩ = some (ptr d.W) ∧ w.drew.cell? ⟨C, 0, none⟩ = some (.int .i64 r) ∧ w.drew.cell? ⟨D, 0, none⟩ = some (.int .i64 o) ∧ w.drew.cell? ⟨E, 0, none⟩ = some (.int .i64 n) ∧ w.drew.cell? ⟨d.W, 0, none⟩ = some (ptr d.A) := ⟨h0, hC, hD, hE, h2⟩
  clear hB h h0 h2 hC hD hE
  go_enter Try.func95, Try.ntmps95
  go_wp2_with fail
  refine region_T (fun k => Nat.ble 8 k) (fun w' => w'.cell? ⟨B, 1, none⟩ = some (ptr d.W) ∧ w'.cell? ⟨C, 0, none⟩ = some (.int .i64 r) ∧ w'.cell? ⟨D, 0, none⟩ = some (.int .i64 o) ∧ w'.cell? ⟨E, 0, none⟩ = some (.int .i64 n) ∧ w'.cell? ⟨d.W, 0, none⟩ = some (ptr d.A)) (by kernel_rfl) ?_
  have hC := hC0
  refine takeW (i := 0) (v := ?_) rfl (by kernel_rfl) (by kernel_rfl) (by kernel_rfl) (by kernel_rfl) (by kernel_rfl) (fun _ _ _ h => h) hC (by rfl) ?_ ?_
  rotate_left
  · intro w hSw; (try dsimp only at hSw); go_simp; try (with_reducible rfl)
  try simp only [Act.put, List.setIfInBounds_toArray, List.set_cons_zero, List.set_cons_succ]
  refine takeW (i := 1) (v := ?_) rfl (by kernel_rfl) (by kernel_rfl) (by kernel_rfl) (by kernel_rfl) (by kernel_rfl) (fun _ _ _ h => h) hC (by rfl) ?_ ?_
  rotate_left
  · intro w hSw; (try dsimp only at hSw); go_simp; try (with_reducible rfl)
  try simp only [Act.put, List.setIfInBounds_toArray, List.set_cons_zero, List.set_cons_succ]
  refine takeW (i := 2) (v := ?_) rfl (by kernel_rfl) (by kernel_rfl) (by kernel_rfl) (by kernel_rfl) (by kernel_rfl) (fun _ _ _ h => h) hC (by rfl) ?_ ?_
  rotate_left
  · intro w hSw; (try dsimp only at hSw); go_simp; try (with_reducible rfl)
  try simp only [Act.put, List.setIfInBounds_toArray, List.set_cons_zero, List.set_cons_succ]
  refine takeW (i := 3) (v := ?_) rfl (by kernel_rfl) (by kernel_rfl) (by kernel_rfl) (by kernel_rfl) (by kernel_rfl) (fun _ _ _ h => h) hC (by rfl) ?_ ?_
  rotate_left
  · intro w hSw; (try dsimp only at hSw); go_simp; try (with_reducible rfl)
  try simp only [Act.put, List.setIfInBounds_toArray, List.set_cons_zero, List.set_cons_succ]
  refine takeW (i := 4) (v := ?_) rfl (by kernel_rfl) (by kernel_rfl) (by kernel_rfl) (by kernel_rfl) (by kernel_rfl) (fun _ _ _ h => h) hC (by rfl) ?_ ?_
  rotate_left
  · intro w hSw; (try dsimp only at hSw); go_simp; try (with_reducible rfl)
  try simp only [Act.put, List.setIfInBounds_toArray, List.set_cons_zero, List.set_cons_succ]
  refine takeW (i := 5) (v := ?_) rfl (by kernel_rfl) (by kernel_rfl) (by kernel_rfl) (by kernel_rfl) (by kernel_rfl) (fun _ _ _ h => h) hC (by rfl) ?_ ?_
  rotate_left
  · intro w hSw; (try dsimp only at hSw); go_simp; try (with_reducible rfl)
  try simp only [Act.put, List.setIfInBounds_toArray, List.set_cons_zero, List.set_cons_succ]
  refine takeW (i := 6) (v := ?_) rfl (by kernel_rfl) (by kernel_rfl) (by kernel_rfl) (by kernel_rfl) (by kernel_rfl) (fun _ _ _ h => h) hC (by rfl) ?_ ?_
  rotate_left
  · intro w hSw; (try dsimp only at hSw); go_simp; try (with_reducible rfl)
  try simp only [Act.put, List.setIfInBounds_toArray, List.set_cons_zero, List.set_cons_succ]
  refine takeW (i := 7) (v := ?_) rfl (by kernel_rfl) (by kernel_rfl) (by kernel_rfl) (by kernel_rfl) (by kernel_rfl) (fun _ _ _ h => h) hC (by rfl) ?_ ?_
  rotate_left
  · intro w hSw; (try dsimp only at hSw); go_simp; try (with_reducible rfl)
  try simp only [Act.put, List.setIfInBounds_toArray, List.set_cons_zero, List.set_cons_succ]
  refine oneT (i := 8) (by kernel_rfl) rfl (by rfl) (fun K hK => ?_)
  go_simp
  refine HS.out.mono ?_
  rintro e w' ⟨rfl, hn⟩
  refine hK.out _ _ (fun h => absurd h (by decide)) ?_
  clear hK K hC hC0 HS
  have HN := Lib.hid (gone_drew hn)
  clear hn
  try simp only [Act.put, List.setIfInBounds_toArray, List.set_cons_zero, List.set_cons_succ]
  refine oneT (i := 9) (by kernel_rfl) rfl (by rfl) (fun K hK => ?_)
  go_simp
  refine hK.out _ _ (fun h => absurd h (by decide)) ?_
  clear hK K
  try simp only [Act.put, List.setIfInBounds_toArray, List.set_cons_zero, List.set_cons_succ]
  refine doneT (by kernel_rfl) ?_
  go_wp2
  go_ret
  exact ⟨rfl, HN.out⟩
theorem take2_walk (h : WS d FW w s) (hf : Fit s) (hB : Tk w B a d.W me) (hC : w.cell? ⟨C, 0, none⟩ = some (.int .i64 r)) :
    Calls Try.prog 96 #[ptr B, ptr C] w fun e w' => e = .returned (intV (gInfo r s).1) ∧ NxW d FW w (gInfo r s).2 w' := by
  have h0 := hB.c1
  have h2 := h.cells.1
  have HS := Lib.hid (nxW_info (drew_W h) hf.ok r)
  have hC0 : w.drew.cell? ⟨B, 1, none⟩ = some (ptr d.W) ∧ w.drew.cell? ⟨C, 0, none⟩ = some (.int .i64 r) ∧ w.drew.cell? ⟨d.W, 0, none⟩ = some (ptr d.A) := ⟨h0, hC, h2⟩
  clear hB h h0 h2 hC
  go_enter Try.func96, Try.ntmps96
  go_wp2_with fail
  refine region_T (fun k => Nat.ble 6 k) (fun w' => w'.cell? ⟨B, 1, none⟩ = some (ptr d.W) ∧ w'.cell? ⟨C, 0, none⟩ = some (.int .i64 r) ∧ w'.cell? ⟨d.W, 0, none⟩ = some (ptr d.A)) (by kernel_rfl) ?_
  have hC := hC0
  refine takeW (i := 0) (v := ?_) rfl (by kernel_rfl) (by kernel_rfl) (by kernel_rfl) (by kernel_rfl) (by kernel_rfl) (fun _ _ _ h => h) hC (by rfl) ?_ ?_
  rotate_left
  · intro w hSw; (try dsimp only at hSw); go_simp; try (with_reducible rfl)
  try simp only [Act.put, List.setIfInBounds_toArray, List.set_cons_zero, List.set_cons_succ]
  refine takeW (i := 1) (v := ?_) rfl (by kernel_rfl) (by kernel_rfl) (by kernel_rfl) (by kernel_rfl) (by kernel_rfl) (fun _ _ _ h => h) hC (by rfl) ?_ ?_
  rotate_left
  · intro w hSw; (try dsimp only at hSw); go_simp; try (with_reducible rfl)
  try simp only [Act.put, List.setIfInBounds_toArray, List.set_cons_zero, List.set_cons_succ]
  refine takeW (i := 2) (v := ?_) rfl (by kernel_rfl) (by kernel_rfl) (by kernel_rfl) (by kernel_rfl) (by kernel_rfl) (fun _ _ _ h => h) hC (by rfl) ?_ ?_
  rotate_left
  · intro w hSw; (try dsimp only at hSw); go_simp; try (with_reducible rfl)
  try simp only [Act.put, List.setIfInBounds_toArray, List.set_cons_zero, List.set_cons_succ]
  refine takeW (i := 3) (v := ?_) rfl (by kernel_rfl) (by kernel_rfl) (by kernel_rfl) (by kernel_rfl) (by kernel_rfl) (fun _ _ _ h => h) hC (by rfl) ?_ ?_
  rotate_left
  · intro w hSw; (try dsimp only at hSw); go_simp; try (with_reducible rfl)
  try simp only [Act.put, List.setIfInBounds_toArray, List.set_cons_zero, List.set_cons_succ]
  refine takeW (i := 4) (v := ?_) rfl (by kernel_rfl) (by kernel_rfl) (by kernel_rfl) (by kernel_rfl) (by kernel_rfl) (fun _ _ _ h => h) hC (by rfl) ?_ ?_
  rotate_left
  · intro w hSw; (try dsimp only at hSw); go_simp; try (with_reducible rfl)
  try simp only [Act.put, List.setIfInBounds_toArray, List.set_cons_zero, List.set_cons_succ]
  refine takeW (i := 5) (v := ?_) rfl (by kernel_rfl) (by kernel_rfl) (by kernel_rfl) (by kernel_rfl) (by kernel_rfl) (fun _ _ _ h => h) hC (by rfl) ?_ ?_
  rotate_left
  · intro w hSw; (try dsimp only at hSw); go_simp; try (with_reducible rfl)
  try simp only [Act.put, List.setIfInBounds_toArray, List.set_cons_zero, List.set_cons_succ]
  refine oneT (i := 6) (by kernel_rfl) rfl (by rfl) (fun K hK => ?_)
  go_simp
  refine HS.out.mono ?_
  rintro e w' ⟨rfl, hn⟩
  refine hK.out _ _ (fun h => absurd h (by decide)) ?_
  clear hK K hC hC0 HS
  have HN := Lib.hid (gone_drew hn)
  clear hn
  try simp only [Act.put, List.setIfInBounds_toArray, List.set_cons_zero, List.set_cons_succ]
  refine oneT (i := 7) (by kernel_rfl) rfl (by rfl) (fun K hK => ?_)
  go_simp
  refine hK.out _ _ (fun h => absurd h (by decide)) ?_
  clear hK K
  try simp only [Act.put, List.setIfInBounds_toArray, List.set_cons_zero, List.set_cons_succ]
  refine doneT (by kernel_rfl) ?_
  go_wp2
  go_ret
  exact ⟨rfl, HN.out⟩
theorem settle1_walk (h : WS d FW w s) (hf : Fit s) (hB : Tk w B a d.W me) (hC : w.cell? ⟨C, 0, none⟩ = some (.int .i64 n)) :
    Calls Try.prog 97 #[ptr B, ptr C] w fun e w' => e = .returned (boolV (gAll n s).1) ∧ NxW d FW w (gAll n s).2 w' := by
  have h0 := hB.c1
  have h2 := h.cells.2.1
  have HS := Lib.hid (nxW_all (drew_W h) hf.rc.1 n)
  have hC0 : w.drew.cell? ⟨B, 1, none⟩ = some (ptr d.W) ∧ w.drew.cell? ⟨C, 0, none⟩ = some (.int .i64 n) ∧ w.drew.cell? ⟨d.W, 1, none⟩ = some (ptr d.R) := ⟨h0, hC, h2⟩
  clear hB h h0 h2 hC
  go_enter Try.func97, Try.ntmps97
  go_wp2_with fail
  refine region_T (fun k => Nat.ble 6 k) (fun w' => w'.cell? ⟨B, 1, none⟩ = some (ptr d.W) ∧ w'.cell? ⟨C, 0, none⟩ = some (.int .i64 n) ∧ w'.cell? ⟨d.W, 1, none⟩ = some (ptr d.R)) (by kernel_rfl) ?_
  have hC := hC0
  refine takeW (i := 0) (v := ?_) rfl (by kernel_rfl) (by kernel_rfl) (by kernel_rfl) (by kernel_rfl) (by kernel_rfl) (fun _ _ _ h => h) hC (by rfl) ?_ ?_
  rotate_left
  · intro w hSw; (try dsimp only at hSw); go_simp; try (with_reducible rfl)
  try simp only [Act.put, List.setIfInBounds_toArray, List.set_cons_zero, List.set_cons_succ]
  refine takeW (i := 1) (v := ?_) rfl (by kernel_rfl) (by kernel_rfl) (by kernel_rfl) (by kernel_rfl) (by kernel_rfl) (fun _ _ _ h => h) hC (by rfl) ?_ ?_
  rotate_left
  · intro w hSw; (try dsimp only at hSw); go_simp; try (with_reducible rfl)
  try simp only [Act.put, List.setIfInBounds_toArray, List.set_cons_zero, List.set_cons_succ]
  refine takeW (i := 2) (v := ?_) rfl (by kernel_rfl) (by kernel_rfl) (by kernel_rfl) (by kernel_rfl) (by kernel_rfl) (fun _ _ _ h => h) hC (by rfl) ?_ ?_
  rotate_left
  · intro w hSw; (try dsimp only at hSw); go_simp; try (with_reducible rfl)
  try simp only [Act.put, List.setIfInBounds_toArray, List.set_cons_zero, List.set_cons_succ]
  refine takeW (i := 3) (v := ?_) rfl (by kernel_rfl) (by kernel_rfl) (by kernel_rfl) (by kernel_rfl) (by kernel_rfl) (fun _ _ _ h => h) hC (by rfl) ?_ ?_
  rotate_left
  · intro w hSw; (try dsimp only at hSw); go_simp; try (with_reducible rfl)
  try simp only [Act.put, List.setIfInBounds_toArray, List.set_cons_zero, List.set_cons_succ]
  refine takeW (i := 4) (v := ?_) rfl (by kernel_rfl) (by kernel_rfl) (by kernel_rfl) (by kernel_rfl) (by kernel_rfl) (fun _ _ _ h => h) hC (by rfl) ?_ ?_
  rotate_left
  · intro w hSw; (try dsimp only at hSw); go_simp; try (with_reducible rfl)
  try simp only [Act.put, List.setIfInBounds_toArray, List.set_cons_zero, List.set_cons_succ]
  refine takeW (i := 5) (v := ?_) rfl (by kernel_rfl) (by kernel_rfl) (by kernel_rfl) (by kernel_rfl) (by kernel_rfl) (fun _ _ _ h => h) hC (by rfl) ?_ ?_
  rotate_left
  · intro w hSw; (try dsimp only at hSw); go_simp; try (with_reducible rfl)
  try simp only [Act.put, List.setIfInBounds_toArray, List.set_cons_zero, List.set_cons_succ]
  refine oneT (i := 6) (by kernel_rfl) rfl (by rfl) (fun K hK => ?_)
  go_simp
  refine HS.out.mono ?_
  rintro e w' ⟨rfl, hn⟩
  refine hK.out _ _ (fun h => absurd h (by decide)) ?_
  clear hK K hC hC0 HS
  have HN := Lib.hid (gone_drew hn)
  clear hn
  try simp only [Act.put, List.setIfInBounds_toArray, List.set_cons_zero, List.set_cons_succ]
  refine oneT (i := 7) (by kernel_rfl) rfl (by rfl) (fun K hK => ?_)
  go_simp
  refine hK.out _ _ (fun h => absurd h (by decide)) ?_
  clear hK K
  try simp only [Act.put, List.setIfInBounds_toArray, List.set_cons_zero, List.set_cons_succ]
  refine doneT (by kernel_rfl) ?_
  go_wp2
  go_ret
  exact ⟨rfl, HN.out⟩
theorem fin1_walk (h : WS d FW w s) (hf : Fit s) (hB : Tk w B a d.W me) (hC : w.cell? ⟨C, 0, none⟩ = some (.int .i64 n)) :
    Calls Try.prog 100 #[ptr B, ptr C] w fun e w' => e = .returned (.tuple #[]) ∧ NxW d FW w (gSetAll n s).2 w' := by
  have h0 := hB.c1
  have h2 := h.cells.2.1
  have HS := Lib.hid (nxW_setAll (drew_W h) hf.rc.1 n)
  have hC0 : w.drew.cell? ⟨B, 1, none⟩ = some (ptr d.W) ∧ w.drew.cell? ⟨C, 0, none⟩ = some (.int .i64 n) ∧ w.drew.cell? ⟨d.W, 1, none⟩ = some (ptr d.R) := ⟨h0, hC, h2⟩
  clear hB h h0 h2 hC
  go_enter Try.func100, Try.ntmps100
  refine region_T (fun k => Nat.ble 6 k) (fun w' => w'.cell? ⟨B, 1, none⟩ = some (ptr d.W) ∧ w'.cell? ⟨C, 0, none⟩ = some (.int .i64 n) ∧ w'.cell? ⟨d.W, 1, none⟩ = some (ptr d.R)) (by kernel_rfl) ?_
  have hC := hC0
  refine takeW (i := 0) (v := ?_) rfl (by kernel_rfl) (by kernel_rfl) (by kernel_rfl) (by kernel_rfl) (by kernel_rfl) (fun _ _ _ h => h) hC (by rfl) ?_ ?_
  rotate_left
  · intro w hSw; (try dsimp only at hSw); go_simp; try (with_reducible rfl)
  try simp only [Act.put, List.setIfInBounds_toArray, List.set_cons_zero, List.set_cons_succ]
  refine takeW (i := 1) (v := ?_) rfl (by kernel_rfl) (by kernel_rfl) (by kernel_rfl) (by kernel_rfl) (by kernel_rfl) (fun _ _ _ h => h) hC (by rfl) ?_ ?_
  rotate_left
  · intro w hSw; (try dsimp only at hSw); go_simp; try (with_reducible rfl)
  try simp only [Act.put, List.setIfInBounds_toArray, List.set_cons_zero, List.set_cons_succ]
  refine takeW (i := 2) (v := ?_) rfl (by kernel_rfl) (by kernel_rfl) (by kernel_rfl) (by kernel_rfl) (by kernel_rfl) (fun _ _ _ h => h) hC (by rfl) ?_ ?_
  rotate_left
  · intro w hSw; (try dsimp only at hSw); go_simp; try (with_reducible rfl)
  try simp only [Act.put, List.setIfInBounds_toArray, List.set_cons_zero, List.set_cons_succ]
  refine takeW (i := 3) (v := ?_) rfl (by kernel_rfl) (by kernel_rfl) (by kernel_rfl) (by kernel_rfl) (by kernel_rfl) (fun _ _ _ h => h) hC (by rfl) ?_ ?_
  rotate_left
  · intro w hSw; (try dsimp only at hSw); go_simp; try (with_reducible rfl)
  try simp only [Act.put, List.setIfInBounds_toArray, List.set_cons_zero, List.set_cons_succ]
  refine takeW (i := 4) (v := ?_) rfl (by kernel_rfl) (by kernel_rfl) (by kernel_rfl) (by kernel_rfl) (by kernel_rfl) (fun _ _ _ h => h) hC (by rfl) ?_ ?_
  rotate_left
  · intro w hSw; (try dsimp only at hSw); go_simp; try (with_reducible rfl)
  try simp only [Act.put, List.setIfInBounds_toArray, List.set_cons_zero, List.set_cons_succ]
  refine takeW (i := 5) (v := ?_) rfl (by kernel_rfl) (by kernel_rfl) (by kernel_rfl) (by kernel_rfl) (by kernel_rfl) (fun _ _ _ h => h) hC (by rfl) ?_ ?_
  rotate_left
  · intro w hSw; (try dsimp only at hSw); go_simp; try (with_reducible rfl)
  try simp only [Act.put, List.setIfInBounds_toArray, List.set_cons_zero, List.set_cons_succ]
  refine oneT (i := 6) (by kernel_rfl) rfl (by rfl) (fun K hK => ?_)
  go_simp
  refine HS.out.mono ?_
  rintro e w' ⟨rfl, hn⟩
  refine hK.out _ _ (fun h => absurd h (by decide)) ?_
  clear hK K
  refine doneT (by kernel_rfl) ?_
  (try simp only [Exit.inBlock, Exit.then])
  refine bodyPost_end (results_none rfl _ _ _) rfl ?_
  exact ⟨rfl, gone_drew hn⟩
theorem fin2_walk (h : WS d FW w s) (hf : Fit s) (hB : Tk w B a d.W me) (hC : w.cell? ⟨C, 0, none⟩ = some (.int .i64 r)) :
    Calls Try.prog 101 #[ptr B, ptr C] w fun e w' => e = .returned (.tuple #[]) ∧ NxW d FW w (gSetMark r s).2 w' := by
  have h0 := hB.c1
  have h2 := h.cells.1
  have HS := Lib.hid (nxW_setMark (drew_W h) hf.ok r)
  have hC0 : w.drew.cell? ⟨B, 1, none⟩ = some (ptr d.W) ∧ w.drew.cell? ⟨C, 0, none⟩ = some (.int .i64 r) ∧ w.drew.cell? ⟨d.W, 0, none⟩ = some (ptr d.A) := ⟨h0, hC, h2⟩
  clear hB h h0 h2 hC
  go_enter Try.func101, Try.ntmps101
  refine region_T (fun k => Nat.ble 6 k) (fun w' => w'.cell? ⟨B, 1, none⟩ = some (ptr d.W) ∧ w'.cell? ⟨C, 0, none⟩ = some (.int .i64 r) ∧ w'.cell? ⟨d.W, 0, none⟩ = some (ptr d.A)) (by kernel_rfl) ?_
  have hC := hC0
  refine takeW (i := 0) (v := ?_) rfl (by kernel_rfl) (by kernel_rfl) (by kernel_rfl) (by kernel_rfl) (by kernel_rfl) (fun _ _ _ h => h) hC (by rfl) ?_ ?_
  rotate_left
  · intro w hSw; (try dsimp only at hSw); go_simp; try (with_reducible rfl)
  try simp only [Act.put, List.setIfInBounds_toArray, List.set_cons_zero, List.set_cons_succ]
  refine takeW (i := 1) (v := ?_) rfl (by kernel_rfl) (by kernel_rfl) (by kernel_rfl) (by kernel_rfl) (by kernel_rfl) (fun _ _ _ h => h) hC (by rfl) ?_ ?_
  rotate_left
  · intro w hSw; (try dsimp only at hSw); go_simp; try (with_reducible rfl)
  try simp only [Act.put, List.setIfInBounds_toArray, List.set_cons_zero, List.set_cons_succ]
  refine takeW (i := 2) (v := ?_) rfl (by kernel_rfl) (by kernel_rfl) (by kernel_rfl) (by kernel_rfl) (by kernel_rfl) (fun _ _ _ h => h) hC (by rfl) ?_ ?_
  rotate_left
  · intro w hSw; (try dsimp only at hSw); go_simp; try (with_reducible rfl)
  try simp only [Act.put, List.setIfInBounds_toArray, List.set_cons_zero, List.set_cons_succ]
  refine takeW (i := 3) (v := ?_) rfl (by kernel_rfl) (by kernel_rfl) (by kernel_rfl) (by kernel_rfl) (by kernel_rfl) (fun _ _ _ h => h) hC (by rfl) ?_ ?_
  rotate_left
  · intro w hSw; (try dsimp only at hSw); go_simp; try (with_reducible rfl)
  try simp only [Act.put, List.setIfInBounds_toArray, List.set_cons_zero, List.set_cons_succ]
  refine takeW (i := 4) (v := ?_) rfl (by kernel_rfl) (by kernel_rfl) (by kernel_rfl) (by kernel_rfl) (by kernel_rfl) (fun _ _ _ h => h) hC (by rfl) ?_ ?_
  rotate_left
  · intro w hSw; (try dsimp only at hSw); go_simp; try (with_reducible rfl)
  try simp only [Act.put, List.setIfInBounds_toArray, List.set_cons_zero, List.set_cons_succ]
  refine takeW (i := 5) (v := ?_) rfl (by kernel_rfl) (by kernel_rfl) (by kernel_rfl) (by kernel_rfl) (by kernel_rfl) (fun _ _ _ h => h) hC (by rfl) ?_ ?_
  rotate_left
  · intro w hSw; (try dsimp only at hSw); go_simp; try (with_reducible rfl)
  try simp only [Act.put, List.setIfInBounds_toArray, List.set_cons_zero, List.set_cons_succ]
  refine oneT (i := 6) (by kernel_rfl) rfl (by rfl) (fun K hK => ?_)
  go_simp
  refine HS.out.mono ?_
  rintro e w' ⟨rfl, hn⟩
  refine hK.out _ _ (fun h => absurd h (by decide)) ?_
  clear hK K
  refine doneT (by kernel_rfl) ?_
  (try simp only [Exit.inBlock, Exit.then])
  refine bodyPost_end (results_none rfl _ _ _) rfl ?_
  exact ⟨rfl, gone_drew hn⟩
theorem set1_walk {t : Int} (h : WS d FW w s) (hf : Fit s) (hB : Tk w B a d.W me) (hC : w.cell? ⟨C, 0, none⟩ = some (.int .i64 n)) (hD : w.cell? ⟨D, 0, none⟩ = some (.int .u8 t)) :
    Calls Try.prog 110 #[ptr B, ptr C, ptr D] w fun e w' => e = .returned (.tuple #[]) ∧ NxW d FW w (gSet n t s).2 w' := by
  have h0 := hB.c1
  have h2 := h.cells.2.1
  have HS := Lib.hid (nxW_set (drew_W h) hf.rc.1 n t)
  have hC0 : w.drew.cell? ⟨B, 1, none⟩ = some (ptr d.W) ∧ w.drew.cell? ⟨C, 0, none⟩ = some (.int .i64 n) ∧ w.drew.cell? ⟨D, 0, none⟩ = some (.int .u8 t) ∧ w.drew.cell? ⟨d.W, 1, none⟩ = some (ptr d.R) := ⟨h0, hC, hD, h2⟩
  clear hB h h0 h2 hC hD
  go_enter Try.func110, Try.ntmps110
  refine region_T (fun k => Nat.ble 7 k) (fun w' => w'.cell? ⟨B, 1, none⟩ = some (ptr d.W) ∧ w'.cell? ⟨C, 0, none⟩ = some (.int .i64 n) ∧ w'.cell? ⟨D, 0, none⟩ = some (.int .u8 t) ∧ w'.cell? ⟨d.W, 1, none⟩ = some (ptr d.R)) (by kernel_rfl) ?_
  have hC := hC0
  refine takeW (i := 0) (v := ?_) rfl (by kernel_rfl) (by kernel_rfl) (by kernel_rfl) (by kernel_rfl) (by kernel_rfl) (fun _ _ _ h => h) hC (by rfl) ?_ ?_
  rotate_left
  · intro w hSw; (try dsimp only at hSw); go_simp; try (with_reducible rfl)
  try simp only [Act.put, List.setIfInBounds_toArray, List.set_cons_zero, List.set_cons_succ]
  refine takeW (i := 1) (v := ?_) rfl (by kernel_rfl) (by kernel_rfl) (by kernel_rfl) (by kernel_rfl) (by kernel_rfl) (fun _ _ _ h => h) hC (by rfl) ?_ ?_
  rotate_left
  · intro w hSw; (try dsimp only at hSw); go_simp; try (with_reducible rfl)
  try simp only [Act.put, List.setIfInBounds_toArray, List.set_cons_zero, List.set_cons_succ]
  refine takeW (i := 2) (v := ?_) rfl (by kernel_rfl) (by kernel_rfl) (by kernel_rfl) (by kernel_rfl) (by kernel_rfl) (fun _ _ _ h => h) hC (by rfl) ?_ ?_
  rotate_left
  · intro w hSw; (try dsimp only at hSw); go_simp; try (with_reducible rfl)
  try simp only [Act.put, List.setIfInBounds_toArray, List.set_cons_zero, List.set_cons_succ]
  refine takeW (i := 3) (v := ?_) rfl (by kernel_rfl) (by kernel_rfl) (by kernel_rfl) (by kernel_rfl) (by kernel_rfl) (fun _ _ _ h => h) hC (by rfl) ?_ ?_
  rotate_left
  · intro w hSw; (try dsimp only at hSw); go_simp; try (with_reducible rfl)
  try simp only [Act.put, List.setIfInBounds_toArray, List.set_cons_zero, List.set_cons_succ]
  refine takeW (i := 4) (v := ?_) rfl (by kernel_rfl) (by kernel_rfl) (by kernel_rfl) (by kernel_rfl) (by kernel_rfl) (fun _ _ _ h => h) hC (by rfl) ?_ ?_
  rotate_left
  · intro w hSw; (try dsimp only at hSw); go_simp; try (with_reducible rfl)
  try simp only [Act.put, List.setIfInBounds_toArray, List.set_cons_zero, List.set_cons_succ]
  refine takeW (i := 5) (v := ?_) rfl (by kernel_rfl) (by kernel_rfl) (by kernel_rfl) (by kernel_rfl) (by kernel_rfl) (fun _ _ _ h => h) hC (by rfl) ?_ ?_
  rotate_left
  · intro w hSw; (try dsimp only at hSw); go_simp; try (with_reducible rfl)
  try simp only [Act.put, List.setIfInBounds_toArray, List.set_cons_zero, List.set_cons_succ]
  refine takeW (i := 6) (v := ?_) rfl (by kernel_rfl) (by kernel_rfl) (by kernel_rfl) (by kernel_rfl) (by kernel_rfl) (fun _ _ _ h => h) hC (by rfl) ?_ ?_
  rotate_left
  · intro w hSw; (try dsimp only at hSw); go_simp; try (with_reducible rfl)
  try simp only [Act.put, List.setIfInBounds_toArray, List.set_cons_zero, List.set_cons_succ]
  refine oneT (i := 7) (by kernel_rfl) rfl (by rfl) (fun K hK => ?_)
  go_simp
  refine HS.out.mono ?_
  rintro e w' ⟨rfl, hn⟩
  refine hK.out _ _ (fun h => absurd h (by decide)) ?_
  clear hK K
  refine doneT (by kernel_rfl) ?_
  (try simp only [Exit.inBlock, Exit.then])
  refine bodyPost_end (results_none rfl _ _ _) rfl ?_
  exact ⟨rfl, gone_drew hn⟩
theorem fin3_walk {b off m c : Nat} {v : Value} {wy od nw kp : Int} (h : WS d FW w s) (hf : Fit s) (hB : Tk w B a d.W me) (hC : Six w C (.slice (some ⟨b, off, none⟩) m c) v kp wy od nw) (hm : 0 < m) (hD : w.cell? ⟨b, off, none⟩ = some (.int .i64 r)) :
    Calls Try.prog 102 #[ptr B, ptr C] w fun e w' => e = .returned (boolV (gSwapWay r wy od nw s).1) ∧ NxW d FW w (gSwapWay r wy od nw s).2 w' := by
  have h0 := hB.c1
  have h2 := h.cells.1
  obtain ⟨x0, x1, x2, x3, x4, x5⟩ := hC.cells
  have HS := Lib.hid (nxW_swapWay (drew_W h) hf.ok r wy od nw)
  have i0 : (0 : Int) < (m : Int) := by omega
  have hC0 : w.drew.cell? ⟨B, 1, none⟩ = some (ptr d.W) ∧ w.drew.cell? ⟨C, 0, none⟩ = some (.slice (some ⟨b, off, none⟩) m c) ∧ w.drew.cell? ⟨C, 3, none⟩ = some (.int .i64 wy) ∧ w.drew.cell? ⟨C, 4, none⟩ = some (.int .i64 od) ∧ w.drew.cell? ⟨C, 5, none⟩ = some (.int .i64 nw) ∧ w.drew.cell? ⟨b, off, none⟩ = some (.int .i64 r) ∧ w.drew.cell? ⟨d.W, 0, none⟩ = some (ptr d.A) := ⟨h0, x0, x3, x4, x5, hD, h2⟩
  clear hB h h0 h2 hC x0 x1 x2 x3 x4 x5 hD
  go_enter Try.func102, Try.ntmps102
  go_wp2_with fail
  refine region_T (fun k => Nat.ble 15 k) (fun w' => w'.cell? ⟨B, 1, none⟩ = some (ptr d.W) ∧ w'.cell? ⟨C, 0, none⟩ = some (.slice (some ⟨b, off, none⟩) m c) ∧ w'.cell? ⟨C, 3, none⟩ = some (.int .i64 wy) ∧ w'.cell? ⟨C, 4, none⟩ = some (.int .i64 od) ∧ w'.cell? ⟨C, 5, none⟩ = some (.int .i64 nw) ∧ w'.cell? ⟨b, off, none⟩ = some (.int .i64 r) ∧ w'.cell? ⟨d.W, 0, none⟩ = some (ptr d.A)) (by kernel_rfl) ?_
  have hC := hC0
  refine takeW (i := 0) (v := ?_) rfl (by kernel_rfl) (by kernel_rfl) (by kernel_rfl) (by kernel_rfl) (by kernel_rfl) (fun _ _ _ h => h) hC (by rfl) ?_ ?_
  rotate_left
  · intro w hSw; (try dsimp only at hSw); go_simp; try (with_reducible rfl)
  try simp only [Act.put, List.setIfInBounds_toArray, List.set_cons_zero, List.set_cons_succ]
  refine takeW (i := 1) (v := ?_) rfl (by kernel_rfl) (by kernel_rfl) (by kernel_rfl) (by kernel_rfl) (by kernel_rfl) (fun _ _ _ h => h) hC (by rfl) ?_ ?_
  rotate_left
  · intro w hSw; (try dsimp only at hSw); go_simp; try (with_reducible rfl)
  try simp only [Act.put, List.setIfInBounds_toArray, List.set_cons_zero, List.set_cons_succ]
  refine takeW (i := 2) (v := ?_) rfl (by kernel_rfl) (by kernel_rfl) (by kernel_rfl) (by kernel_rfl) (by kernel_rfl) (fun _ _ _ h => h) hC (by rfl) ?_ ?_
  rotate_left
  · intro w hSw; (try dsimp only at hSw); go_simp; try (with_reducible rfl)
  try simp only [Act.put, List.setIfInBounds_toArray, List.set_cons_zero, List.set_cons_succ]
  refine takeW (i := 3) (v := ?_) rfl (by kernel_rfl) (by kernel_rfl) (by kernel_rfl) (by kernel_rfl) (by kernel_rfl) (fun _ _ _ h => h) hC (by rfl) ?_ ?_
  rotate_left
  · intro w hSw; (try dsimp only at hSw); go_simp; try (with_reducible rfl)
  try simp only [Act.put, List.setIfInBounds_toArray, List.set_cons_zero, List.set_cons_succ]
  refine takeW (i := 4) (v := ?_) rfl (by kernel_rfl) (by kernel_rfl) (by kernel_rfl) (by kernel_rfl) (by kernel_rfl) (fun _ _ _ h => h) hC (by rfl) ?_ ?_
  rotate_left
  · intro w hSw; (try dsimp only at hSw); go_simp; try (with_reducible rfl)
  try simp only [Act.put, List.setIfInBounds_toArray, List.set_cons_zero, List.set_cons_succ]
  refine takeW (i := 5) (v := ?_) rfl (by kernel_rfl) (by kernel_rfl) (by kernel_rfl) (by kernel_rfl) (by kernel_rfl) (fun _ _ _ h => h) hC (by rfl) ?_ ?_
  rotate_left
  · intro w hSw; (try dsimp only at hSw); go_simp; try (with_reducible rfl)
  try simp only [Act.put, List.setIfInBounds_toArray, List.set_cons_zero, List.set_cons_succ]
  refine takeW (i := 6) (v := ?_) rfl (by kernel_rfl) (by kernel_rfl) (by kernel_rfl) (by kernel_rfl) (by kernel_rfl) (fun _ _ _ h => h) hC (by rfl) ?_ ?_
  rotate_left
  · intro w hSw; (try dsimp only at hSw); go_simp; try (with_reducible rfl)
  try simp only [Act.put, List.setIfInBounds_toArray, List.set_cons_zero, List.set_cons_succ]
  refine takeW (i := 7) (v := ?_) rfl (by kernel_rfl) (by kernel_rfl) (by kernel_rfl) (by kernel_rfl) (by kernel_rfl) (fun _ _ _ h => h) hC (by rfl) ?_ ?_
  rotate_left
  · intro w hSw; (try dsimp only at hSw); go_simp; try (with_reducible rfl)
  try simp only [Act.put, List.setIfInBounds_toArray, List.set_cons_zero, List.set_cons_succ]
  refine takeW (i := 8) (v := ?_) rfl (by kernel_rfl) (by kernel_rfl) (by kernel_rfl) (by kernel_rfl) (by kernel_rfl) (fun _ _ _ h => h) hC (by rfl) ?_ ?_
  rotate_left
  · intro w hSw; (try dsimp only at hSw); go_simp; try (with_reducible rfl)
  try simp only [Act.put, List.setIfInBounds_toArray, List.set_cons_zero, List.set_cons_succ]
  refine takeW (i := 9) (v := ?_) rfl (by kernel_rfl) (by kernel_rfl) (by kernel_rfl) (by kernel_rfl) (by kernel_rfl) (fun _ _ _ h => h) hC (by rfl) ?_ ?_
  rotate_left
  · intro w hSw; (try dsimp only at hSw); go_simp; try (with_reducible rfl)
  try simp only [Act.put, List.setIfInBounds_toArray, List.set_cons_zero, List.set_cons_succ]
  refine takeW (i := 10) (v := ?_) rfl (by kernel_rfl) (by kernel_rfl) (by kernel_rfl) (by kernel_rfl) (by kernel_rfl) (fun _ _ _ h => h) hC (by rfl) ?_ ?_
  rotate_left
  · intro w hSw; (try dsimp only at hSw); go_simp; try (with_reducible rfl)
  try simp only [Act.put, List.setIfInBounds_toArray, List.set_cons_zero, List.set_cons_succ]
  refine takeW (i := 11) (v := ?_) rfl (by kernel_rfl) (by kernel_rfl) (by kernel_rfl) (by kernel_rfl) (by kernel_rfl) (fun _ _ _ h => h) hC (by rfl) ?_ ?_
  rotate_left
  · intro w hSw; (try dsimp only at hSw); go_simp; try (with_reducible rfl)
  try simp only [Act.put, List.setIfInBounds_toArray, List.set_cons_zero, List.set_cons_succ]
  refine takeW (i := 12) (v := ?_) rfl (by kernel_rfl) (by kernel_rfl) (by kernel_rfl) (by kernel_rfl) (by kernel_rfl) (fun _ _ _ h => h) hC (by rfl) ?_ ?_
  rotate_left
  · intro w hSw; (try dsimp only at hSw); go_simp; try (with_reducible rfl)
  try simp only [Act.put, List.setIfInBounds_toArray, List.set_cons_zero, List.set_cons_succ]
  refine takeW (i := 13) (v := ?_) rfl (by kernel_rfl) (by kernel_rfl) (by kernel_rfl) (by kernel_rfl) (by kernel_rfl) (fun _ _ _ h => h) hC (by rfl) ?_ ?_
  rotate_left
  · intro w hSw; (try dsimp only at hSw); go_simp; try (with_reducible rfl)
  try simp only [Act.put, List.setIfInBounds_toArray, List.set_cons_zero, List.set_cons_succ]
  refine takeW (i := 14) (v := ?_) rfl (by kernel_rfl) (by kernel_rfl) (by kernel_rfl) (by kernel_rfl) (by kernel_rfl) (fun _ _ _ h => h) hC (by rfl) ?_ ?_
  rotate_left
  · intro w hSw; (try dsimp only at hSw); go_simp; try (with_reducible rfl)
  try simp only [Act.put, List.setIfInBounds_toArray, List.set_cons_zero, List.set_cons_succ]
  refine oneT (i := 15) (by kernel_rfl) rfl (by rfl) (fun K hK => ?_)
  go_simp
  refine HS.out.mono ?_
  rintro e w' ⟨rfl, hn⟩
  refine hK.out _ _ (fun h => absurd h (by decide)) ?_
  clear hK K hC hC0 HS
  have HN := Lib.hid (gone_drew hn)
  clear hn
  try simp only [Act.put, List.setIfInBounds_toArray, List.set_cons_zero, List.set_cons_succ]
  refine oneT (i := 16) (by kernel_rfl) rfl (by rfl) (fun K hK => ?_)
  go_simp
  refine hK.out _ _ (fun h => absurd h (by decide)) ?_
  clear hK K
  try simp only [Act.put, List.setIfInBounds_toArray, List.set_cons_zero, List.set_cons_succ]
  refine doneT (by kernel_rfl) ?_
  go_wp2
  go_ret
  exact ⟨rfl, HN.out⟩
end
end Go.Proofs.Ytmhmgdpcibldlaa
