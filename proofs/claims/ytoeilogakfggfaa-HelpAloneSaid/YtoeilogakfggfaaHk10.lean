/-
  The laws' helper, started; what it answered.
-/
import Derived.Test.YtoeilogakfggfaaHj10
namespace Go.Proofs.Ytoeilogakfggfaa
open Go.ChangeShapes Go.WideShapes Go.ChangeAt Go.RowKit
set_option linter.unusedVariables false
set_option linter.unusedSimpArgs false
set_option maxRecDepth 20000

section
variable {W : World} {X : Nat → Prop} {d : Wd} {N T i L M : Nat} {hs : Nat → Hp} {os : Nat → Ts} {s s' : Sig} {w w' : World} {nds : List (Int × Nd)} {n : Int}
abbrev hlpF : Nat := 34
theorem hlp_job {R : Nat → Prop} {me b : Nat} (hM : M ≤ 1000) (hc : w.cell? ⟨b, 0, none⟩ = some (.int .i64 n)) (hR : R b) : Job d R w hlpF me #[ptr b] (Stt nds M) (tHlp n) idO := by
  intro a wk R' w' h1 h2 w1 R1 zs st s h3 h4 h5 h6 h7 gp
  exact help1_walk hM (h3 _ (h1 _ hR)) (cell_same ((h4 _ (h1 _ hR)).trans (h2 _ hR)) hc) h7 h6
theorem good_hlp (h : has s n) : good (tHlp n) s := ⟨h, good_bind (t := tHelp (rcOf s.rs n) n) (K := fun b => .ret [b2i b]) (nolk_good (nl_help _ _) _) fun v s' _ => trivial⟩
theorem ev_hlp (n : Int) (s : Sig) : ev (tHlp n) s = ([b2i (ev (tHelp (rcOf s.rs n) n) s).1], (ev (tHelp (rcOf s.rs n) n) s).2.1, (ev (tHelp (rcOf s.rs n) n) s).2.2) := by
  show ev ((tHelp (rcOf s.rs n) n).bind fun b => .ret [b2i b]) s = _
  rw [ev_bind]
  rfl
theorem MB.helper {me : Nat} (h : MB W X d N T hs os s w) (hh : has s n) (hM : M ≤ 1000) :
    Calls Try.prog 10 #[ptr d.W, .int .i64 (me : Int), .int .i64 n] w fun e w' => ∃ a b, e = .returned (ptr a) ∧ MB W (fun q => X q ∨ q = b) d (N + 1) T (upd hs N ⟨a, me, hlpF, #[ptr b], tHlp n, Stt nds M⟩) (upd os N (.run (nrm (tHlp n) s))) s w' ∧ Below w.heap.size w w' := by
  have e3 := mk_fn
  obtain ⟨Z, b, hZ, hb, bZ, cZ⟩ : ∃ (Z : World) (b : Nat), w.alloc (.cells #[.int .i64 n] i6T) = Z ∧ w.heap.size = b ∧ Below w.heap.size w Z ∧ Z.cell? ⟨b, 0, none⟩ = some (.int .i64 n) := ⟨_, _, rfl, rfl, below_new _ _, c_new rfl rfl⟩
  have hbZ : b < Z.heap.size := World.block_lt_of_cell? Z _ cZ
  have h1 : MB W (fun q => X q ∨ q = b) d N T hs os s Z := h.more bZ (fun q e => e.imp id fun e => ⟨by omega, by omega⟩) (.inr fun q e => .inl e)
  have HS := Lib.hid (h1.me.start (me := me) (f := hlpF) (cap := #[ptr b]) (Pr := Stt nds M) (hlp_job hM cZ (.inr (.inr rfl))) (fun a W => rfl) (good_hd (good_hlp hh)))
  have HB := Lib.hid h1.bel
  have HZ := Lib.hid bZ
  clear h h1 cZ bZ hbZ hh
  go_enter Try.func10, Try.ntmps10
  go_wp2_with fail
  (try rw [hZ]); (try rw [hb])
  refine HS.out.mono ?_
  rintro e w1 ⟨a, rfl, hM1, hb1⟩
  have HE : Hid (MB W (fun q => X q ∨ q = b) d (N + 1) T (upd hs N ⟨a, me, hlpF, #[ptr b], tHlp n, Stt nds M⟩) (upd os N (.run (nrm (tHlp n) s))) s w1 ∧ Below w.heap.size w w1) := ⟨⟨hM1, HB.out.trans (hb1.mono HB.out.size)⟩, HZ.out.trans (hb1.mono HZ.out.size)⟩
  clear HS HB HZ hM1 hb1
  go_wp2
  go_ret
  exact ⟨a, b, rfl, HE.out⟩
/-- What a helper answered. -/
theorem MB.yes {b : Bool} (h : MB W X d N T hs os s w) (hi : i < N) (ho : os i = .fin [b2i b]) :
    Calls Try.prog 12 #[ptr (hs i).a] w fun e w' => e = .returned (.bool b) ∧ Below w.heap.size w w' := by
  have HO := Lib.hid (h.out hi ho (by simp))
  clear h hi ho
  go_enter Try.func12, Try.ntmps12
  go_wp2_with fail
  refine HO.out.mono ?_
  rintro e w1 ⟨A, q, c, rfl, r1, r2⟩
  have hs := r1.sl
  obtain rfl : q = 1 := hs.len
  obtain ⟨g, off, rfl, hg, hc⟩ := hs.at_ (k := 0) (by simp)
  have HE := Lib.hid r2
  clear HO r1 r2 hs hg
  cases b with
  | true =>
    have hc : w1.cell? ⟨g, off, none⟩ = some (.int .i64 1) := hc
    go_wp2
    go_ret
    exact ⟨rfl, HE.out⟩
  | false =>
    have hc : w1.cell? ⟨g, off, none⟩ = some (.int .i64 0) := hc
    go_wp2
    go_ret
    exact ⟨rfl, HE.out⟩
end
end Go.Proofs.Ytoeilogakfggfaa
