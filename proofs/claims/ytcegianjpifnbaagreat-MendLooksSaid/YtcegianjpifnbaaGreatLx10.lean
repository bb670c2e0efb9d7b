/-
  llx's touches within work; where a call within work is, whatever holds all along (BT); what comes with memory of its own (PostM).
-/
import Derived.Test.YtcegianjpifnbaaGreatPg
namespace Go.Proofs.YtcegianjpifnbaaGreat
open Go.ChangeShapes Go.WideShapes Go.ChangeAt Go.RowKit
set_option linter.unusedVariables false
set_option linter.unusedSimpArgs false
set_option maxRecDepth 20000

def gMark (r : Int) (s : Sig) : Int × Sig := gAr s (s.ar.with r fun i p => (b2i p.mark, s.ar))
def gState (n : Int) (s : Sig) : Int × Sig := (match rcAt s.rs n with | some (_, x) => IntKind.i64.wrap x.st | none => 0, s)
def gWay (r k : Int) (s : Sig) : Int × Sig := gAr s (s.ar.with r fun i p => (wayAt p k, s.ar))
def u8w (z : Int) : Int := IntKind.u8.wrap z
abbrev u8V (z : Int) : Value := .int .u8 z
def tMark (r : Int) : Tr Bool := .tch (gMark r) fun z => .ret (z != 0)
def tState (n : Int) : Tr Int := .tch (gState n) fun z => .ret (u8w z)
section
variable {d : Wd} {FW R : Nat → Prop} {w w' : World} {s : Sig} {B C D E a me i : Nat} {n r o k : Int}
theorem nxW_mark (h : WS d FW w s) (hok : Ok s.ar) (r : Int) : Calls Tryz.prog 132 #[ptr d.A, .int .i64 r] w fun e w' => e = .returned (boolV (gMark r s).1) ∧ NxW d FW w (gMark r s).2 w' := by
  obtain ⟨FA, h1, h2, h3⟩ := h.ar
  cases hh : s.ar.hit r with
  | some ip =>
    obtain ⟨i, p⟩ := ip
    obtain ⟨k1, k2, k3⟩ := hit_some hh
    refine (mark_yes h1 hok k1 k2 k3).mono ?_
    rintro e w' ⟨rfl, rfl⟩
    simp only [gMark, gAr, As.with, hh]
    exact ⟨by cases p.mark <;> rfl, NxW.same h⟩
  | none =>
    refine (mark_no h1 hok (hit_none hok hh)).mono ?_
    rintro e w' ⟨rfl, q1, q2⟩
    simp only [gMark, gAr, As.with, hh]
    exact ⟨rfl, h3 _ _ (Nx.of q1 q2)⟩
theorem nxW_wayG (h : WS d FW w s) (hok : Ok s.ar) (r k : Int) : Calls Tryz.prog 33 #[ptr d.A, .int .i64 r, .int .i64 k] w fun e w' => e = .returned (intV (gWay r k s).1) ∧ NxW d FW w (gWay r k s).2 w' := by
  obtain ⟨FA, h1, h2, h3⟩ := h.ar
  cases hh : s.ar.hit r with
  | some ip =>
    obtain ⟨i, p⟩ := ip
    obtain ⟨k1, k2, k3⟩ := hit_some hh
    refine (way_yes h1 hok k1 k2 k3 k).mono ?_
    rintro e w' ⟨rfl, rfl⟩
    simp only [gWay, gAr, As.with, hh]
    exact ⟨trivial, NxW.same h⟩
  | none =>
    refine (way_no h1 hok (hit_none hok hh) k).mono ?_
    rintro e w' ⟨rfl, q1, q2⟩
    simp only [gWay, gAr, As.with, hh]
    exact ⟨trivial, h3 _ _ (Nx.of q1 q2)⟩
/-- A record's state, whatever number. -/
def stOf (l : List Re) (n : Int) : Int := match rcAt l n with | some (_, x) => x.st | none => 0
theorem nxW_stateG (h : WS d FW w s) (hl : s.rs.length ≤ 1000) (n : Int) : Calls Tryz.prog 136 #[ptr d.R, .int .i64 n] w fun e w' => e = .returned (.int .u8 (stOf s.rs n)) ∧ NxW d FW w s w' := by
  obtain ⟨FT, ⟨l, P, h1, h2⟩, -, -⟩ := h.rc
  cases hh : rcAt s.rs n with
  | some ix =>
    obtain ⟨i, x⟩ := ix
    obtain ⟨k1, k2⟩ := rcAt_some hh
    obtain ⟨y, y1, y2⟩ := it_at h2 k1
    refine (recState_yes h1 y1 k2 (by rw [len_it h2]; omega)).mono ?_
    rintro e w' ⟨rfl, rfl⟩
    simp only [stOf, hh, ← y2, It.re]
    exact ⟨trivial, NxW.same h⟩
  | none =>
    refine (recState_no h1 (by rw [len_it h2]; exact rcAt_none hh)).mono ?_
    rintro e w' ⟨rfl, rfl⟩
    simp only [stOf, hh]
    exact ⟨trivial, NxW.same h⟩
theorem gState_eq (n : Int) (s : Sig) : gState n s = (IntKind.i64.wrap (stOf s.rs n), s) := by
  unfold gState stOf
  split <;> rfl
theorem lmark1_walk (h : WS d FW w s) (hf : Fit s) (hB : Tk w B a d.W me) (hC : w.cell? ⟨C, 0, none⟩ = some (.int .i64 r)) :
    Calls Tryz.prog 131 #[ptr B, ptr C] w fun e w' => e = .returned (boolV (gMark r s).1) ∧ NxW d FW w (gMark r s).2 w' := by
  have h0 := hB.c1
  have h2 := h.cells.1
  have HS := Lib.hid (nxW_mark (drew_W h) hf.ok r)
  have hC0 : w.drew.cell? ⟨B, 1, none⟩ = some (ptr d.W) ∧ w.drew.cell? ⟨C, 0, none⟩ = some (.int .i64 r) ∧ w.drew.cell? ⟨d.W, 0, none⟩ = some (ptr d.A) := ⟨h0, hC, h2⟩
  clear hB h h0 h2 hC
  go_enter Tryz.func131, Tryz.ntmps131
  go_wp2_with fail
  refine region_T (fun k => Nat.ble 6 k) (fun w' => w'.cell? ⟨B, 1, none⟩ = some (ptr d.W) ∧ w'.cell? ⟨C, 0, none⟩ = some (.int .i64 r) ∧ w'.cell? ⟨d.W, 0, none⟩ = some (ptr d.A)) (by kernel_rfl) ?_
  have hC := hC0
  refine takeX 0 3 (v := ?_) rfl rfl (by kernel_rfl) (by kernel_rfl) (by kernel_rfl) (by kernel_rfl) (by kernel_rfl) (fun _ _ _ _ h => h) hC (by rfl) ?_ ?_
  rotate_left
  · intro w hSw; (try dsimp only at hSw); go_simp; try (with_reducible rfl)
  simp only [List.setIfInBounds_toArray, List.set_cons_zero, List.set_cons_succ]
  refine takeX 1 4 (v := ?_) rfl rfl (by kernel_rfl) (by kernel_rfl) (by kernel_rfl) (by kernel_rfl) (by kernel_rfl) (fun _ _ _ _ h => h) hC (by rfl) ?_ ?_
  rotate_left
  · intro w hSw; (try dsimp only at hSw); go_simp; try (with_reducible rfl)
  simp only [List.setIfInBounds_toArray, List.set_cons_zero, List.set_cons_succ]
  refine takeX 2 5 (v := ?_) rfl rfl (by kernel_rfl) (by kernel_rfl) (by kernel_rfl) (by kernel_rfl) (by kernel_rfl) (fun _ _ _ _ h => h) hC (by rfl) ?_ ?_
  rotate_left
  · intro w hSw; (try dsimp only at hSw); go_simp; try (with_reducible rfl)
  simp only [List.setIfInBounds_toArray, List.set_cons_zero, List.set_cons_succ]
  refine takeX 3 6 (v := ?_) rfl rfl (by kernel_rfl) (by kernel_rfl) (by kernel_rfl) (by kernel_rfl) (by kernel_rfl) (fun _ _ _ _ h => h) hC (by rfl) ?_ ?_
  rotate_left
  · intro w hSw; (try dsimp only at hSw); go_simp; try (with_reducible rfl)
  simp only [List.setIfInBounds_toArray, List.set_cons_zero, List.set_cons_succ]
  refine takeX 4 7 (v := ?_) rfl rfl (by kernel_rfl) (by kernel_rfl) (by kernel_rfl) (by kernel_rfl) (by kernel_rfl) (fun _ _ _ _ h => h) hC (by rfl) ?_ ?_
  rotate_left
  · intro w hSw; (try dsimp only at hSw); go_simp; try (with_reducible rfl)
  simp only [List.setIfInBounds_toArray, List.set_cons_zero, List.set_cons_succ]
  refine takeX 5 8 (v := ?_) rfl rfl (by kernel_rfl) (by kernel_rfl) (by kernel_rfl) (by kernel_rfl) (by kernel_rfl) (fun _ _ _ _ h => h) hC (by rfl) ?_ ?_
  rotate_left
  · intro w hSw; (try dsimp only at hSw); go_simp; try (with_reducible rfl)
  simp only [List.setIfInBounds_toArray, List.set_cons_zero, List.set_cons_succ]
  refine oneT (i := 6) (by kernel_rfl) rfl (by rfl) (fun K hK => ?_)
  go_simp
  refine HS.out.mono ?_
  rintro e w' ⟨rfl, hn⟩
  refine hK.out _ _ (fun h => absurd h (by decide)) ?_
  clear hK K hC hC0 HS
  have HN := Lib.hid (gone_drew hn)
  clear hn
  try simp only [Act.put, List.setIfInBounds_toArray, List.set_cons_zero, List.set_cons_succ]
  refine oneT (i := 7) (by kernel_rfl) rfl (by rfl) (fun K hK => ?_)
  go_simp
  refine hK.out _ _ (fun h => absurd h (by decide)) ?_
  clear hK K
  try simp only [Act.put, List.setIfInBounds_toArray, List.set_cons_zero, List.set_cons_succ]
  refine doneT (by kernel_rfl) ?_
  go_wp2
  go_ret
  exact ⟨rfl, HN.out⟩
theorem linfo1_walk (h : WS d FW w s) (hf : Fit s) (hB : Tk w B a d.W me) (hC : w.cell? ⟨C, 0, none⟩ = some (.int .i64 r)) :
    Calls Tryz.prog 133 #[ptr B, ptr C] w fun e w' => e = .returned (intV (gInfo r s).1) ∧ NxW d FW w (gInfo r s).2 w' := by
  have h0 := hB.c1
  have h2 := h.cells.1
  have HS := Lib.hid (nxW_info (drew_W h) hf.ok r)
  have hC0 : w.drew.cell? ⟨B, 1, none⟩ = some (ptr d.W) ∧ w.drew.cell? ⟨C, 0, none⟩ = some (.int .i64 r) ∧ w.drew.cell? ⟨d.W, 0, none⟩ = some (ptr d.A) := ⟨h0, hC, h2⟩
  clear hB h h0 h2 hC
  go_enter Tryz.func133, Tryz.ntmps133
  go_wp2_with fail
  refine region_T (fun k => Nat.ble 6 k) (fun w' => w'.cell? ⟨B, 1, none⟩ = some (ptr d.W) ∧ w'.cell? ⟨C, 0, none⟩ = some (.int .i64 r) ∧ w'.cell? ⟨d.W, 0, none⟩ = some (ptr d.A)) (by kernel_rfl) ?_
  have hC := hC0
  refine takeX 0 3 (v := ?_) rfl rfl (by kernel_rfl) (by kernel_rfl) (by kernel_rfl) (by kernel_rfl) (by kernel_rfl) (fun _ _ _ _ h => h) hC (by rfl) ?_ ?_
  rotate_left
  · intro w hSw; (try dsimp only at hSw); go_simp; try (with_reducible rfl)
  simp only [List.setIfInBounds_toArray, List.set_cons_zero, List.set_cons_succ]
  refine takeX 1 4 (v := ?_) rfl rfl (by kernel_rfl) (by kernel_rfl) (by kernel_rfl) (by kernel_rfl) (by kernel_rfl) (fun _ _ _ _ h => h) hC (by rfl) ?_ ?_
  rotate_left
  · intro w hSw; (try dsimp only at hSw); go_simp; try (with_reducible rfl)
  simp only [List.setIfInBounds_toArray, List.set_cons_zero, List.set_cons_succ]
  refine takeX 2 5 (v := ?_) rfl rfl (by kernel_rfl) (by kernel_rfl) (by kernel_rfl) (by kernel_rfl) (by kernel_rfl) (fun _ _ _ _ h => h) hC (by rfl) ?_ ?_
  rotate_left
  · intro w hSw; (try dsimp only at hSw); go_simp; try (with_reducible rfl)
  simp only [List.setIfInBounds_toArray, List.set_cons_zero, List.set_cons_succ]
  refine takeX 3 6 (v := ?_) rfl rfl (by kernel_rfl) (by kernel_rfl) (by kernel_rfl) (by kernel_rfl) (by kernel_rfl) (fun _ _ _ _ h => h) hC (by rfl) ?_ ?_
  rotate_left
  · intro w hSw; (try dsimp only at hSw); go_simp; try (with_reducible rfl)
  simp only [List.setIfInBounds_toArray, List.set_cons_zero, List.set_cons_succ]
  refine takeX 4 7 (v := ?_) rfl rfl (by kernel_rfl) (by kernel_rfl) (by kernel_rfl) (by kernel_rfl) (by kernel_rfl) (fun _ _ _ _ h => h) hC (by rfl) ?_ ?_
  rotate_left
  · intro w hSw; (try dsimp only at hSw); go_simp; try (with_reducible rfl)
  simp only [List.setIfInBounds_toArray, List.set_cons_zero, List.set_cons_succ]
  refine takeX 5 8 (v := ?_) rfl rfl (by kernel_rfl) (by kernel_rfl) (by kernel_rfl) (by kernel_rfl) (by kernel_rfl) (fun _ _ _ _ h => h) hC (by rfl) ?_ ?_
  rotate_left
  · intro w hSw; (try dsimp only at hSw); go_simp; try (with_reducible rfl)
  simp only [List.setIfInBounds_toArray, List.set_cons_zero, List.set_cons_succ]
  refine oneT (i := 6) (by kernel_rfl) rfl (by rfl) (fun K hK => ?_)
  go_simp
  refine HS.out.mono ?_
  rintro e w' ⟨rfl, hn⟩
  refine hK.out _ _ (fun h => absurd h (by decide)) ?_
  clear hK K hC hC0 HS
  have HN := Lib.hid (gone_drew hn)
  clear hn
  try simp only [Act.put, List.setIfInBounds_toArray, List.set_cons_zero, List.set_cons_succ]
  refine oneT (i := 7) (by kernel_rfl) rfl (by rfl) (fun K hK => ?_)
  go_simp
  refine hK.out _ _ (fun h => absurd h (by decide)) ?_
  clear hK K
  try simp only [Act.put, List.setIfInBounds_toArray, List.set_cons_zero, List.set_cons_succ]
  refine doneT (by kernel_rfl) ?_
  go_wp2
  go_ret
  exact ⟨rfl, HN.out⟩
theorem lstate1_walk (h : WS d FW w s) (hf : Fit s) (hB : Tk w B a d.W me) (hC : w.cell? ⟨C, 0, none⟩ = some (.int .i64 n)) :
    Calls Tryz.prog 135 #[ptr B, ptr C] w fun e w' => e = .returned (intV (gState n s).1) ∧ NxW d FW w (gState n s).2 w' := by
  have h0 := hB.c1
  have h2 := h.cells.2.1
  have HS := Lib.hid (nxW_stateG (drew_W h) hf.rc.1 n)
  have hC0 : w.drew.cell? ⟨B, 1, none⟩ = some (ptr d.W) ∧ w.drew.cell? ⟨C, 0, none⟩ = some (.int .i64 n) ∧ w.drew.cell? ⟨d.W, 1, none⟩ = some (ptr d.R) := ⟨h0, hC, h2⟩
  have HG := Lib.hid (gState_eq n s)
  clear hB h h0 h2 hC
  go_enter Tryz.func135, Tryz.ntmps135
  go_wp2_with fail
  refine region_T (fun k => Nat.ble 6 k) (fun w' => w'.cell? ⟨B, 1, none⟩ = some (ptr d.W) ∧ w'.cell? ⟨C, 0, none⟩ = some (.int .i64 n) ∧ w'.cell? ⟨d.W, 1, none⟩ = some (ptr d.R)) (by kernel_rfl) ?_
  have hC := hC0
  refine takeX 0 3 (v := ?_) rfl rfl (by kernel_rfl) (by kernel_rfl) (by kernel_rfl) (by kernel_rfl) (by kernel_rfl) (fun _ _ _ _ h => h) hC (by rfl) ?_ ?_
  rotate_left
  · intro w hSw; (try dsimp only at hSw); go_simp; try (with_reducible rfl)
  simp only [List.setIfInBounds_toArray, List.set_cons_zero, List.set_cons_succ]
  refine takeX 1 4 (v := ?_) rfl rfl (by kernel_rfl) (by kernel_rfl) (by kernel_rfl) (by kernel_rfl) (by kernel_rfl) (fun _ _ _ _ h => h) hC (by rfl) ?_ ?_
  rotate_left
  · intro w hSw; (try dsimp only at hSw); go_simp; try (with_reducible rfl)
  simp only [List.setIfInBounds_toArray, List.set_cons_zero, List.set_cons_succ]
  refine takeX 2 5 (v := ?_) rfl rfl (by kernel_rfl) (by kernel_rfl) (by kernel_rfl) (by kernel_rfl) (by kernel_rfl) (fun _ _ _ _ h => h) hC (by rfl) ?_ ?_
  rotate_left
  · intro w hSw; (try dsimp only at hSw); go_simp; try (with_reducible rfl)
  simp only [List.setIfInBounds_toArray, List.set_cons_zero, List.set_cons_succ]
  refine takeX 3 6 (v := ?_) rfl rfl (by kernel_rfl) (by kernel_rfl) (by kernel_rfl) (by kernel_rfl) (by kernel_rfl) (fun _ _ _ _ h => h) hC (by rfl) ?_ ?_
  rotate_left
  · intro w hSw; (try dsimp only at hSw); go_simp; try (with_reducible rfl)
  simp only [List.setIfInBounds_toArray, List.set_cons_zero, List.set_cons_succ]
  refine takeX 4 7 (v := ?_) rfl rfl (by kernel_rfl) (by kernel_rfl) (by kernel_rfl) (by kernel_rfl) (by kernel_rfl) (fun _ _ _ _ h => h) hC (by rfl) ?_ ?_
  rotate_left
  · intro w hSw; (try dsimp only at hSw); go_simp; try (with_reducible rfl)
  simp only [List.setIfInBounds_toArray, List.set_cons_zero, List.set_cons_succ]
  refine takeX 5 8 (v := ?_) rfl rfl (by kernel_rfl) (by kernel_rfl) (by kernel_rfl) (by kernel_rfl) (by kernel_rfl) (fun _ _ _ _ h => h) hC (by rfl) ?_ ?_
  rotate_left
  · intro w hSw; (try dsimp only at hSw); go_simp; try (with_reducible rfl)
  simp only [List.setIfInBounds_toArray, List.set_cons_zero, List.set_cons_succ]
  refine oneT (i := 6) (by kernel_rfl) rfl (by rfl) (fun K hK => ?_)
  go_simp
  refine HS.out.mono ?_
  rintro e w' ⟨rfl, hn⟩
  refine hK.out _ _ (fun h => absurd h (by decide)) ?_
  clear hK K hC hC0 HS
  have HN := Lib.hid (gone_drew hn)
  clear hn
  try simp only [Act.put, List.setIfInBounds_toArray, List.set_cons_zero, List.set_cons_succ]
  refine oneT (i := 7) (by kernel_rfl) rfl (by rfl) (fun K hK => ?_)
  go_simp
  refine hK.out _ _ (fun h => absurd h (by decide)) ?_
  clear hK K
  try simp only [Act.put, List.setIfInBounds_toArray, List.set_cons_zero, List.set_cons_succ]
  refine oneT (i := 8) (by kernel_rfl) rfl (by rfl) (fun K hK => ?_)
  go_simp
  refine hK.out _ _ (fun h => absurd h (by decide)) ?_
  clear hK K
  try simp only [Act.put, List.setIfInBounds_toArray, List.set_cons_zero, List.set_cons_succ]
  refine doneT (by kernel_rfl) ?_
  go_wp2
  go_ret
  exact ⟨by rw [HG.out]; rfl, by rw [HG.out]; exact HN.out⟩
theorem lway1_walk (h : WS d FW w s) (hf : Fit s) (hB : Tk w B a d.W me) (hC : w.cell? ⟨C, 0, none⟩ = some (.int .i64 r)) (hD : w.cell? ⟨D, 0, none⟩ = some (.int .i64 k)) :
    Calls Tryz.prog 150 #[ptr B, ptr C, ptr D] w fun e w' => e = .returned (intV (gWay r k s).1) ∧ NxW d FW w (gWay r k s).2 w' := by
  have h0 := hB.c1
  have h2 := h.cells.1
  have HS := Lib.hid (nxW_wayG (drew_W h) hf.ok r k)
  have hC0 : w.drew.cell? ⟨B, 1, none⟩ = some (ptr d.W) ∧ w.drew.cell? ⟨C, 0, none⟩ = some (.int .i64 r) ∧ w.drew.cell? ⟨D, 0, none⟩ = some (.int .i64 k) ∧ w.drew.cell? ⟨d.W, 0, none⟩ = some (ptr d.A) := ⟨h0, hC, hD, h2⟩
  clear hB h h0 h2 hC hD
  go_enter Tryz.func150, Tryz.ntmps150
  go_wp2_with fail
  refine region_T (fun k => Nat.ble 7 k) (fun w' => w'.cell? ⟨B, 1, none⟩ = some (ptr d.W) ∧ w'.cell? ⟨C, 0, none⟩ = some (.int .i64 r) ∧ w'.cell? ⟨D, 0, none⟩ = some (.int .i64 k) ∧ w'.cell? ⟨d.W, 0, none⟩ = some (ptr d.A)) (by kernel_rfl) ?_
  have hC := hC0
  refine takeX 0 4 (v := ?_) rfl rfl (by kernel_rfl) (by kernel_rfl) (by kernel_rfl) (by kernel_rfl) (by kernel_rfl) (fun _ _ _ _ h => h) hC (by rfl) ?_ ?_
  rotate_left
  · intro w hSw; (try dsimp only at hSw); go_simp; try (with_reducible rfl)
  simp only [List.setIfInBounds_toArray, List.set_cons_zero, List.set_cons_succ]
  refine takeX 1 5 (v := ?_) rfl rfl (by kernel_rfl) (by kernel_rfl) (by kernel_rfl) (by kernel_rfl) (by kernel_rfl) (fun _ _ _ _ h => h) hC (by rfl) ?_ ?_
  rotate_left
  · intro w hSw; (try dsimp only at hSw); go_simp; try (with_reducible rfl)
  simp only [List.setIfInBounds_toArray, List.set_cons_zero, List.set_cons_succ]
  refine takeX 2 6 (v := ?_) rfl rfl (by kernel_rfl) (by kernel_rfl) (by kernel_rfl) (by kernel_rfl) (by kernel_rfl) (fun _ _ _ _ h => h) hC (by rfl) ?_ ?_
  rotate_left
  · intro w hSw; (try dsimp only at hSw); go_simp; try (with_reducible rfl)
  simp only [List.setIfInBounds_toArray, List.set_cons_zero, List.set_cons_succ]
  refine takeX 3 7 (v := ?_) rfl rfl (by kernel_rfl) (by kernel_rfl) (by kernel_rfl) (by kernel_rfl) (by kernel_rfl) (fun _ _ _ _ h => h) hC (by rfl) ?_ ?_
  rotate_left
  · intro w hSw; (try dsimp only at hSw); go_simp; try (with_reducible rfl)
  simp only [List.setIfInBounds_toArray, List.set_cons_zero, List.set_cons_succ]
  refine takeX 4 8 (v := ?_) rfl rfl (by kernel_rfl) (by kernel_rfl) (by kernel_rfl) (by kernel_rfl) (by kernel_rfl) (fun _ _ _ _ h => h) hC (by rfl) ?_ ?_
  rotate_left
  · intro w hSw; (try dsimp only at hSw); go_simp; try (with_reducible rfl)
  simp only [List.setIfInBounds_toArray, List.set_cons_zero, List.set_cons_succ]
  refine takeX 5 9 (v := ?_) rfl rfl (by kernel_rfl) (by kernel_rfl) (by kernel_rfl) (by kernel_rfl) (by kernel_rfl) (fun _ _ _ _ h => h) hC (by rfl) ?_ ?_
  rotate_left
  · intro w hSw; (try dsimp only at hSw); go_simp; try (with_reducible rfl)
  simp only [List.setIfInBounds_toArray, List.set_cons_zero, List.set_cons_succ]
  refine takeX 6 10 (v := ?_) rfl rfl (by kernel_rfl) (by kernel_rfl) (by kernel_rfl) (by kernel_rfl) (by kernel_rfl) (fun _ _ _ _ h => h) hC (by rfl) ?_ ?_
  rotate_left
  · intro w hSw; (try dsimp only at hSw); go_simp; try (with_reducible rfl)
  simp only [List.setIfInBounds_toArray, List.set_cons_zero, List.set_cons_succ]
  refine oneT (i := 7) (by kernel_rfl) rfl (by rfl) (fun K hK => ?_)
  go_simp
  refine HS.out.mono ?_
  rintro e w' ⟨rfl, hn⟩
  refine hK.out _ _ (fun h => absurd h (by decide)) ?_
  clear hK K hC hC0 HS
  have HN := Lib.hid (gone_drew hn)
  clear hn
  try simp only [Act.put, List.setIfInBounds_toArray, List.set_cons_zero, List.set_cons_succ]
  refine oneT (i := 8) (by kernel_rfl) rfl (by rfl) (fun K hK => ?_)
  go_simp
  refine hK.out _ _ (fun h => absurd h (by decide)) ?_
  clear hK K
  try simp only [Act.put, List.setIfInBounds_toArray, List.set_cons_zero, List.set_cons_succ]
  refine doneT (by kernel_rfl) ?_
  go_wp2
  go_ret
  exact ⟨rfl, HN.out⟩
end
theorem mark_01 (r : Int) (s : Sig) : (gMark r s).1 = 0 ∨ (gMark r s).1 = 1 := by
  simp only [gMark, gAr, As.with]
  split
  · rename_i i p _; cases p.mark <;> simp [b2i]
  · simp
theorem state_in (n : Int) (s : Sig) : in64 (gState n s).1 := by
  rw [gState_eq]; show in64 (IntKind.i64.wrap (stOf s.rs n)); unfold in64; rw [IntKind.wrap_i64]; omega
/-- A node's ways can be told. -/
def WaysIn (s : Sig) : Prop := ∀ p ∈ s.ar.pls, ∀ z ∈ p.ws, in64 z
theorem way_in {s : Sig} (h : WaysIn s) (r k : Int) : in64 (gWay r k s).1 := by
  simp only [gWay, gAr, As.with]
  split
  · rename_i i p hh
    have hp := List.mem_of_getElem? (hit_some hh).1
    simp only [wayAt]
    split
    · by_cases hk : k.toNat < p.ws.length
      · rw [List.getD_eq_getElem?_getD, List.getElem?_eq_getElem hk]; exact h p hp _ (List.getElem_mem hk)
      · rw [List.getD_eq_getElem?_getD, List.getElem?_eq_none (by omega)]; unfold in64; simp
    · unfold in64; omega
  · unfold in64; omega
section
variable {d : Wd} {R R' : Nat → Prop} {w w' w0 : World} {a st ph k me : Nat} {wk : Value} {zs : List Int} {c : Cur} {s : Sig} {n r i : Int}
theorem lmark_touch (h : Lv d R w a wk c s) :
    Calls Tryz.prog 112 #[tkV a d.W me, .int .i64 r] w (Post d R w a wk bV (run (tMark r) c s)) := by
  have e3 := mk_fn
  obtain ⟨W, p, q, hW, hp, hq, bb, tk, v1, hsz⟩ := two_boxes w a d.W me (.int .i64 r) 53
  have h1 : Lv d (fun b => R b ∨ b = p ∨ b = q) W a wk c s := h.more bb (fun b e => e.imp id fun e => by omega)
  have HD := Lib.hid (ask_touch (f := 131) (cap := #[ptr p, ptr q]) (g := gMark r) (fun W => rfl) h1 (fun _ => mark_01 r s) (by
    intro hl w1 FW hWS hR hsz
    exact lmark1_walk hWS (h.fit hl) (tk.cells (hR _ (.inr (.inl rfl))).1) (cell_same (hR _ (.inr (.inr rfl))).1 v1)))
  have HK := Lib.hid (Kp.new h bb)
  obtain ⟨t0, t1, t2⟩ := tk
  unfold tMark
  clear h bb v1 h1 hsz
  generalize run (.tch (gMark r) fun z => .ret (z != 0)) c s = o at HD ⊢
  go_enter Tryz.func112, Tryz.ntmps112
  go_wp2_with fail
  refine HD.out.mono ?_
  clear HD
  rintro e w1 hP
  have hP2 := Post.from_ HK.out (hP.mono fun b e => .inl e)
  cases o with
  | wait zs st s' =>
    obtain ⟨k1, rfl, k2⟩ := hP2
    exact ⟨rfl, k1, rfl, k2⟩
  | ret z c' s' =>
    obtain ⟨k1, rfl, k2⟩ := hP
    have HE := Lib.hid hP2
    clear k1 k2 hP2 t0 t1 t2
    go_wp2
    go_ret
    exact HE.out
theorem linfo_touch (h : Lv d R w a wk c s) :
    Calls Tryz.prog 113 #[tkV a d.W me, .int .i64 r] w (Post d R w a wk intV (run (tDo (gInfo r)) c s)) := by
  have e3 := mk_fn
  obtain ⟨W, p, q, hW, hp, hq, bb, tk, v1, hsz⟩ := two_boxes w a d.W me (.int .i64 r) 53
  have h1 : Lv d (fun b => R b ∨ b = p ∨ b = q) W a wk c s := h.more bb (fun b e => e.imp id fun e => by omega)
  have HD := Lib.hid (do_touch (f := 133) (cap := #[ptr p, ptr q]) (g := gInfo r) (fun W => rfl) h1 (fun hl => info_in (h.fit hl) r) (by
    intro hl w1 FW hWS hR hsz
    exact linfo1_walk hWS (h.fit hl) (tk.cells (hR _ (.inr (.inl rfl))).1) (cell_same (hR _ (.inr (.inr rfl))).1 v1)))
  have HK := Lib.hid (Kp.new h bb)
  obtain ⟨t0, t1, t2⟩ := tk
  clear h bb v1 h1 hsz
  generalize run (tDo (gInfo r)) c s = o at HD ⊢
  go_enter Tryz.func113, Tryz.ntmps113
  go_wp2_with fail
  refine HD.out.mono ?_
  clear HD
  rintro e w1 hP
  have hP2 := Post.from_ HK.out (hP.mono fun b e => .inl e)
  cases o with
  | wait zs st s' =>
    obtain ⟨k1, rfl, k2⟩ := hP2
    exact ⟨rfl, k1, rfl, k2⟩
  | ret z c' s' =>
    obtain ⟨k1, rfl, k2⟩ := hP
    have HE := Lib.hid hP2
    clear k1 k2 hP2 t0 t1 t2
    go_wp2
    go_ret
    exact HE.out
theorem lway_touch (hWI : WaysIn s) (h : Lv d R w a wk c s) :
    Calls Tryz.prog 137 #[tkV a d.W me, .int .i64 r, .int .i64 i] w (Post d R w a wk intV (run (tDo (gWay r i)) c s)) := by
  have e3 := mk_fn
  obtain ⟨W, p, q, q2, hW, hp, hq, hq2, bb, tk, v1, v2, hsz⟩ := three_boxes w a d.W me (.int .i64 r) (.int .i64 i) 53 3
  have h1 : Lv d (fun b => R b ∨ b = p ∨ b = q ∨ b = q2) W a wk c s := h.more bb (fun b e => e.imp id fun e => by omega)
  have HD := Lib.hid (do_touch (f := 150) (cap := #[ptr p, ptr q, ptr q2]) (g := gWay r i) (fun W => rfl) h1 (fun _ => way_in hWI r i) (by
    intro hl w1 FW hWS hR hsz
    exact lway1_walk hWS (h.fit hl) (tk.cells (hR _ (.inr (.inl rfl))).1) (cell_same (hR _ (.inr (.inr (.inl rfl)))).1 v1) (cell_same (hR _ (.inr (.inr (.inr rfl)))).1 v2)))
  have HK := Lib.hid (Kp.new h bb)
  obtain ⟨t0, t1, t2⟩ := tk
  clear h bb v1 v2 h1 hsz
  generalize run (tDo (gWay r i)) c s = o at HD ⊢
  go_enter Tryz.func137, Tryz.ntmps137
  go_wp2_with fail
  refine HD.out.mono ?_
  clear HD
  rintro e w1 hP
  have hP2 := Post.from_ HK.out (hP.mono fun b e => .inl e)
  cases o with
  | wait zs st s' =>
    obtain ⟨k1, rfl, k2⟩ := hP2
    exact ⟨rfl, k1, rfl, k2⟩
  | ret z c' s' =>
    obtain ⟨k1, rfl, k2⟩ := hP
    have HE := Lib.hid hP2
    clear k1 k2 hP2 t0 t1 t2
    go_wp2
    go_ret
    exact HE.out
theorem lstate_touch (h : Lv d R w a wk c s) :
    Calls Tryz.prog 114 #[tkV a d.W me, .int .i64 n] w (Post d R w a wk u8V (run (tState n) c s)) := by
  have e3 := mk_fn
  obtain ⟨W, p, q, hW, hp, hq, bb, tk, v1, hsz⟩ := two_boxes w a d.W me (.int .i64 n) 2
  have h1 : Lv d (fun b => R b ∨ b = p ∨ b = q) W a wk c s := h.more bb (fun b e => e.imp id fun e => by omega)
  have HD := Lib.hid (do_touch (f := 135) (cap := #[ptr p, ptr q]) (g := gState n) (fun W => rfl) h1 (fun _ => state_in n s) (by
    intro hl w1 FW hWS hR hsz
    exact lstate1_walk hWS (h.fit hl) (tk.cells (hR _ (.inr (.inl rfl))).1) (cell_same (hR _ (.inr (.inr rfl))).1 v1)))
  have HK := Lib.hid (Kp.new h bb)
  obtain ⟨t0, t1, t2⟩ := tk
  have hrb : run (tState n) c s = (run (tDo (gState n)) c s).bind fun z c s => .ret (u8w z) c s := run_bind (tDo (gState n)) (fun z => .ret (u8w z)) c s
  rw [hrb]
  clear hrb
  clear h bb v1 h1 hsz
  generalize run (tDo (gState n)) c s = o at HD ⊢
  go_enter Tryz.func114, Tryz.ntmps114
  go_wp2_with fail
  refine HD.out.mono ?_
  clear HD
  rintro e w1 hP
  have hP2 := Post.from_ HK.out (hP.mono fun b e => .inl e)
  cases o with
  | wait zs st s' =>
    obtain ⟨k1, rfl, k2⟩ := hP2
    exact ⟨rfl, k1, rfl, k2⟩
  | ret z c' s' =>
    obtain ⟨k1, rfl, k2⟩ := hP
    have HE : Hid (Post d R w a wk u8V (.ret (u8w z) c' s') (.returned (.int .u8 (u8w z))) w1) := ⟨hP2.1, rfl, hP2.2.2⟩
    clear k1 k2 hP2 t0 t1 t2
    go_wp2
    go_ret
    exact HE.out
end
/-- It waits: a call's other end. -/
def Wts {α : Type} (d : Wd) (R : Nat → Prop) (w : World) (a : Nat) (wk : Value) (o : Out α) (e : Ending) (w' : World) : Prop :=
  e = .panicked waitE ∧ ∃ zs st s, o = .wait zs st s ∧ Kp R w w' ∧ Wt d R w' a wk zs st s
/-- What a call comes to that answers with memory of its own: blocks Y. -/
def PostM {α : Type} (d : Wd) (R : Nat → Prop) (w : World) (a : Nat) (wk : Value) (U : α → (Nat → Prop) → World → Value → Prop) (o : Out α) (e : Ending) (w' : World) : Prop :=
  (∃ v c s x Y, o = .ret v c s ∧ e = .returned x ∧ Kp R w w' ∧ U v Y w' x ∧ Lv d (fun b => R b ∨ Y b) w' a wk c s ∧ ∀ b, Y b → w.heap.size ≤ b) ∨ Wts d R w a wk o e w'
/-- Where a call within work is: t is to come; X is kept; P holds all along. -/
structure BT {α : Type} (P : Sig → Prop) (d : Wd) (R X : Nat → Prop) (w : World) (a me : Nat) (wk : Value) (p : Nat) (o : Out α) (t : Tr α) (wr : World) (c : Cur) (s : Sig) : Prop where
  rn : o = run t c s
  lv : Lv d X wr a wk c s
  sub : ∀ b, R b ∨ b = p → X b
  kp : Kp R w wr
  tk : Tk wr p a d.W me
  inv : P s
/-- What a tree keeps, however far it is gone through. -/
def kpP {α : Type} (P : Sig → Prop) (t : Tr α) : Prop := ∀ {c : Cur} {s : Sig} {v : α} {c' : Cur} {s' : Sig}, P s → run t c s = .ret v c' s' → P s'
section
variable {α β : Type} {P : Sig → Prop} {d : Wd} {R R' X X' : Nat → Prop} {w w' w0 wr w1 : World} {a st ph k me p : Nat} {wk : Value} {zs : List Int} {c : Cur} {s : Sig} {n : Int} {o : Out α} {e : Ending}
theorem Wts.post {V : α → Value} (h : Wts d R w a wk o e w') : Post d R w a wk V o e w' := by
  obtain ⟨rfl, zs, st, s, rfl, h1, h2⟩ := h; exact ⟨h1, rfl, h2⟩
theorem Wts.postW {out : α → List Int} (h : Wts d R w a wk o e w') : PostW d R w a wk out o e w' := by
  obtain ⟨rfl, zs, st, s, rfl, h1, h2⟩ := h; exact ⟨h1, rfl, h2⟩
theorem BT.more {t : Tr α} (h : BT P d R X w a me wk p o t wr c s) (hb : Below wr.heap.size wr w') (hx : ∀ b, X' b → X b ∨ (wr.heap.size ≤ b ∧ b < w'.heap.size)) (hs : ∀ b, R b ∨ b = p → X' b) : BT P d R X' w a me wk p o t w' c s :=
  ⟨h.rn, h.lv.more hb hx, hs, h.kp.trans (Kp.below hb fun b e => h.lv.lt b (h.sub b (.inl e))), h.tk.cells (hb.block p (h.lv.lt p (h.sub p (.inr rfl)))), h.inv⟩
theorem BT.below {t : Tr α} (h : BT P d R X w a me wk p o t wr c s) (hb : Below wr.heap.size wr w') : BT P d R X w a me wk p o t w' c s := h.more hb (fun b e => .inl e) h.sub
theorem BT.mono {t : Tr α} (h : BT P d R X w a me wk p o t wr c s) (hx : ∀ b, X' b → X b) (hs : ∀ b, R b ∨ b = p → X' b) : BT P d R X' w a me wk p o t wr c s := ⟨h.rn, h.lv.mono hx, hs, h.kp, h.tk, h.inv⟩
theorem BT.setR {t : Tr α} (h : BT P d R X w a me wk p o t wr c s) {q j : Nat} (hq : X q) (v : Value) (nR : ¬ R q) (np : q ≠ p) : BT P d R X w a me wk p o t (wr.setCell ⟨q, j, none⟩ v) c s :=
  ⟨h.rn, h.lv.setR hq v, h.sub, h.kp.trans (Kp.set R wr v nR), h.tk.cells (heap_setCell_other wr ⟨q, j, none⟩ p v (fun e => np e.symm)), h.inv⟩
/-- A block of one's own has grown. -/
theorem Lv0.kept {g : Option Nat} (h : Lv0 d X w a wk zs st ph k s) (hg : w.grownBy w' g) (hX : ∀ b, g = some b → X b) (hX' : ∀ b, X' b → X b ∨ (w.heap.size ≤ b ∧ b < w'.heap.size)) : Lv0 d X' w' a wk zs st ph k s := by
  obtain ⟨F, FW, T, h1, h2, h3, h4⟩ := h
  have hb : ∀ b, b < w.heap.size → ¬ X b → w'.heap[b]? = w.heap[b]? := fun b e1 e2 => hg.block b e1 fun e => e2 (hX b e.symm)
  refine ⟨F, FW, T, h1.keep (fun b e => hb b (h1.lt b e) fun f => (h4 b f).2.1 e) hg.size, h2.keep (fun b e => hb b (h2.lt b e) fun f => (h4 b f).2.2 e) hg.size, h3, fun b e => ?_⟩
  rcases hX' b e with e | e
  · exact ⟨Nat.lt_of_lt_of_le (h4 b e).1 hg.size, (h4 b e).2⟩
  · exact ⟨e.2, fun f => by have := h1.lt b f; omega, fun f => by have := h2.lt b f; omega⟩
theorem BT.kept {t : Tr α} {g : Option Nat} (h : BT P d R X w a me wk p o t wr c s) (hg : wr.grownBy w' g) (hX : ∀ b, g = some b → X b ∧ ¬ R b ∧ b ≠ p) (hX' : ∀ b, X' b → X b ∨ (wr.heap.size ≤ b ∧ b < w'.heap.size)) (hs : ∀ b, R b ∨ b = p → X' b) : BT P d R X' w a me wk p o t w' c s :=
  have hb : ∀ b, R b ∨ b = p → w'.heap[b]? = wr.heap[b]? := fun b e => hg.block b (h.lv.lt b (h.sub b e)) fun f => by
    rcases e with e | e
    · exact (hX b f.symm).2.1 e
    · exact (hX b f.symm).2.2 e
  ⟨h.rn, ⟨h.lv.lv.kept hg (fun b e => (hX b e).1) hX', h.lv.ok, h.lv.few, h.lv.in64, h.lv.fit⟩, hs, h.kp.trans ⟨hg.os, hg.tape, hg.output, hg.size, fun b e => hb b (.inl e)⟩, h.tk.cells (hb p (.inr rfl)), h.inv⟩
theorem BT.lk {K : Rc → Tr α} (h : BT P d R X w a me wk p o (.lk n K) wr c s) : BT P d R X w a me wk p o (K (rcOf s.rs n)) wr c s := ⟨h.rn, h.lv, h.sub, h.kp, h.tk, h.inv⟩
theorem BT.begin_ {t : Tr α} (h : Lv d R w a wk c s) (hb : Below w.heap.size w w') (hx : ∀ b, X b → R b ∨ (w.heap.size ≤ b ∧ b < w'.heap.size)) (hs : ∀ b, R b ∨ b = p → X b) (htk : Tk w' p a d.W me) (hP : P s) : BT P d R X w a me wk p (run t c s) t w' c s := ⟨rfl, h.more hb hx, hs, Kp.new h hb, htk, hP⟩
/-- A call's outcome. -/
theorem BT.call {t : Tr β} {K : β → Tr α} {V : β → Value} (h : BT P d R X w a me wk p o (t.bind K) wr c s) (hk : kpP P t) (hP : Post d X wr a wk V (run t c s) e w1) :
    (∃ v c' s', e = .returned (V v) ∧ run t c s = .ret v c' s' ∧ BT P d R X w a me wk p o (K v) w1 c' s' ∧ Kp X wr w1) ∨ Wts d R w a wk o e w1 := by
  have hrn := h.rn
  rw [run_bind] at hrn
  cases hr : run t c s with
  | wait zs st s' =>
    rw [hr] at hP hrn
    obtain ⟨k1, k2, k3⟩ := hP
    exact .inr ⟨k2, zs, st, s', hrn, h.kp.trans (k1.mono fun b e => h.sub b (.inl e)), k3.mono fun b e => h.sub b (.inl e)⟩
  | ret v c' s' =>
    rw [hr] at hP hrn
    obtain ⟨k1, k2, k3⟩ := hP
    exact .inl ⟨v, c', s', k2, rfl, ⟨hrn, k3, h.sub, h.kp.trans (k1.mono fun b e => h.sub b (.inl e)), h.tk.cells (k1.block p (h.sub p (.inr rfl))), hk h.inv hr⟩, k1⟩
theorem BT.callM {t : Tr β} {K : β → Tr α} {U : β → (Nat → Prop) → World → Value → Prop} (h : BT P d R X w a me wk p o (t.bind K) wr c s) (hk : kpP P t) (hP : PostM d X wr a wk U (run t c s) e w1) :
    (∃ v c' s' x Y, e = .returned x ∧ run t c s = .ret v c' s' ∧ U v Y w1 x ∧ BT P d R (fun b => X b ∨ Y b) w a me wk p o (K v) w1 c' s' ∧ Kp X wr w1 ∧ ∀ b, Y b → wr.heap.size ≤ b) ∨ Wts d R w a wk o e w1 := by
  have hrn := h.rn
  rw [run_bind] at hrn
  rcases hP with ⟨v, c', s', x, Y, hr, k2, k1, k4, k3, k5⟩ | ⟨k2, zs, st, s', hr, k1, k3⟩
  · rw [hr] at hrn
    exact .inl ⟨v, c', s', x, Y, k2, hr, k4, ⟨hrn, k3, fun b e => .inl (h.sub b e), h.kp.trans (k1.mono fun b e => h.sub b (.inl e)), h.tk.cells (k1.block p (h.sub p (.inr rfl))), hk h.inv hr⟩, k1, k5⟩
  · rw [hr] at hrn
    exact .inr ⟨k2, zs, st, s', hrn, h.kp.trans (k1.mono fun b e => h.sub b (.inl e)), k3.mono fun b e => h.sub b (.inl e)⟩
theorem BT.post {v : α} {V : α → Value} (h : BT P d R X w a me wk p o (.ret v) wr c s) : Post d R w a wk V o (.returned (V v)) wr := by
  rw [h.rn]
  exact ⟨h.kp, rfl, h.lv.mono fun b e => h.sub b (.inl e)⟩
theorem BT.postM {v : α} {U : α → (Nat → Prop) → World → Value → Prop} {Y : Nat → Prop} {x : Value} (h : BT P d R X w a me wk p o (.ret v) wr c s) (hU : U v Y wr x) (hY : ∀ b, Y b → X b) (hn : ∀ b, Y b → w.heap.size ≤ b) : PostM d R w a wk U o (.returned x) wr := by
  rw [h.rn]
  exact .inl ⟨v, c, s, x, Y, rfl, rfl, h.kp, hU, h.lv.mono fun b e => e.elim (fun e => h.sub b (.inl e)) (hY b), hn⟩
/-- The last call. -/
theorem BT.last {t : Tr α} {V : α → Value} (h : BT P d R X w a me wk p o t wr c s) (hP : Post d X wr a wk V (run t c s) e w1) : (∃ v, e = .returned (V v) ∧ Post d R w a wk V o (.returned (V v)) w1) ∨ Wts d R w a wk o e w1 := by
  have hrn := h.rn
  cases hr : run t c s with
  | wait zs st s' =>
    rw [hr] at hP hrn
    obtain ⟨k1, k2, k3⟩ := hP
    exact .inr ⟨k2, zs, st, s', hrn, h.kp.trans (k1.mono fun b e => h.sub b (.inl e)), k3.mono fun b e => h.sub b (.inl e)⟩
  | ret v c' s' =>
    rw [hr] at hP hrn
    obtain ⟨k1, k2, k3⟩ := hP
    refine .inl ⟨v, k2, ?_⟩
    rw [hrn]
    exact ⟨h.kp.trans (k1.mono fun b e => h.sub b (.inl e)), rfl, k3.mono fun b e => h.sub b (.inl e)⟩
theorem Tr.ret_bind (v : β) (K : β → Tr α) : (Tr.ret v).bind K = K v := rfl
end
end Go.Proofs.YtcegianjpifnbaaGreat
