/-
  What world's freeReady and Begin come to within work.
-/
import Derived.Test.YtfloblofdkemlaaBg8
import Derived.Deep.CutBlock
import Derived.Deep.DeepCutAuto
namespace Go.Proofs.Ytfloblofdkemlaa
open Go.ChangeShapes Go.WideShapes Go.ChangeAt Go.RowKit
set_option linter.unusedVariables false
set_option linter.unusedSimpArgs false
set_option maxRecDepth 20000

section
variable {d : Wd} {R R' : Nat → Prop} {w w' w0 : World} {a st ph k me : Nat} {wk : Value} {zs : List Int} {c : Cur} {s : Sig} {n : Int}
theorem gRdy_in (hf : Fit s) (i : Nat) (n : Int) : in64 (gRdy i n s).1 := by
  have h0 : in64 0 := by unfold in64; omega
  unfold gRdy
  split
  · rename_i y p q hx
    split
    · exact ((hf.que _ (List.mem_of_getElem? hx)).2 p (List.mem_cons_self ..)).1
    · exact h0
  · exact h0
/-- Fuel enough. -/
def fuel (c : Cur) (M : Nat) : Prop := (c.live = true → c.zs.length + 2 ≤ M + c.k) ∧ (c.live = false → 1 ≤ M)
/-- Where freeReady is. -/
structure FR (d : Wd) (R : Nat → Prop) (w : World) (a me : Nat) (wk : Value) (p q : Nat) (o : Out Unit) (n : Int) (M : Nat) (wr : World) (c : Cur) (s : Sig) : Prop where
  run : o = run (tFree me n M) c s
  lv : Lv d (fun b => R b ∨ b = p ∨ b = q) wr a wk c s
  kp : Kp R w wr
  tk : Tk wr p a d.W me
  cn : wr.cell? ⟨q, 0, none⟩ = some (.int .i64 n)
  fu : fuel c M
  len : c.live = true → me < s.S.length
set_option maxHeartbeats 1000000 in
theorem free_touch {N : Nat} (h : Lv d R w a wk c s) (hi : c.live = true → me < s.S.length) (hn : n ≤ 9223372036854775807) (hN : fuel c N) :
    Calls Try.prog 62 #[tkV a d.W me, .int .i64 n] w (Post d R w a wk uV (run (tFree me n N) c s)) := by
  have e3 := mk_fn
  obtain ⟨W, p, q, hW, hp, hq, bb, tk, cc, hsz⟩ := two_boxes w a d.W me (.int .i64 n) 2
  have h1 : Lv d (fun b => R b ∨ b = p ∨ b = q) W a wk c s := h.more bb (fun b e => e.imp id fun e => by omega)
  obtain ⟨o, ho⟩ : ∃ o, run (tFree me n N) c s = o := ⟨_, rfl⟩
  rw [ho]
  have HA : Hid (FR d R w a me wk p q o n N W c s) := ⟨ho.symm, h1, Kp.new h bb, tk, cc, hN, hi⟩
  clear h bb h1 hsz ho tk cc hi hN
  go_enter Try.func62, Try.ntmps62
  go_wp2_with fail
  clear hW hp hq
  go_loopg [] N (fun gk wr => ∃ (c' : Cur) (s' : Sig), Hid (FR d R w a me wk p q o n gk wr c' s'))
  case atStart => exact ⟨c, s, HA.out⟩
  case round =>
    clear HA
    obtain ⟨c1, s1, HH⟩ := hrel
    obtain ⟨gk, rfl⟩ : ∃ g', gk = g' + 1 := by
      have hf := HH.out.fu
      refine ⟨gk - 1, ?_⟩
      cases hl : c1.live with
      | true => have := hf.1 hl; have := (HH.out.lv.ok.1 hl); omega
      | false => have := hf.2 hl; omega
    have HD := Lib.hid (node_touch (me := me) (f := 83) (cap := #[ptr p, ptr q]) (g := gReady me n) (fun W => rfl) HH.out.lv (fun hl => gRdy_in (HH.out.lv.fit hl) me n) (by
      intro hl w1 FW hWS hR hsz
      exact ready1_walk hWS (HH.out.lv.fit hl) (HH.out.tk.cells (hR _ (.inr (.inl rfl))).1) (cell_same (hR _ (.inr (.inr rfl))).1 HH.out.cn) (HH.out.len hl) hn (hR _ (.inr (.inl rfl))).2 (Nat.lt_of_lt_of_le (HH.out.lv.lt p (.inr (.inl rfl))) hsz)))
    obtain ⟨t0, t1, t2⟩ := HH.out.tk
    go_wp2_with fail
    refine HD.out.mono ?_
    clear HD
    rintro e w1 hP
    have hrun := HH.out.run
    rw [tFree, run_tch] at hrun
    cases hr : run (tDo (gReady me n)) c1 s1 with
    | wait zs st s' =>
      rw [hr] at hP hrun
      obtain ⟨k1, rfl, k2⟩ := hP
      subst hrun
      exact ⟨rfl, HH.out.kp.trans (k1.mono fun b e => .inl e), rfl, k2.mono fun b e => .inl e⟩
    | ret z c2 s2 =>
      rw [hr] at hP hrun
      obtain ⟨k1, rfl, k2⟩ := hP
      have hrun2 : o = run (if z = 0 then .ret () else tFree me n gk) c2 s2 := hrun
      have HKK : Hid (Kp R w w1) := HH.out.kp.trans (k1.mono fun b e => .inl e)
      by_cases hz : z = 0
      · rw [if_pos hz] at hrun2
        have HE : Hid (Post d R w a wk uV o (.returned (.tuple #[])) w1) := by rw [hrun2]; exact ⟨HKK.out, rfl, k2.mono fun b e => .inl e⟩
        have hzb : (z != 0) = false := by simpa using hz
        clear hrun2 hrun hr k1 k2 HH t0 t1 t2 HKK
        go_wp2
        ((try simp only [Exit.inBlock, Exit.then]); refine bodyPost_end (results_none rfl _ _ _) rfl ?_)
        exact HE.out
      · rw [if_neg hz] at hrun2
        have hzb : (z != 0) = true := by simpa using hz
        have HF : Hid (FR d R w a me wk p q o n gk w1 c2 s2) := by
          refine ⟨hrun2, k2, HKK.out, HH.out.tk.cells (k1.block p (.inr (.inl rfl))), cell_same (k1.block q (.inr (.inr rfl))) HH.out.cn, ?_, ?_⟩
          · have hf := HH.out.fu
            have hok := HH.out.lv.ok
            rcases run_do hr with ⟨e1, e2, rfl, _, _⟩ | ⟨e1, e2, rfl, _, _⟩
            · exact ⟨fun _ => by have := hf.1 e1; simp only; omega, fun e => by cases e⟩
            · exact ⟨fun e => (by cases e), fun _ => by have := hf.1 e1; have := hok.1 e1; omega⟩
          · rcases run_do hr with ⟨e1, e2, rfl, rfl, _⟩ | ⟨e1, e2, rfl, _, _⟩
            · exact fun _ => HH.out.len e1
            · exact fun e => by cases e
        clear hrun2 hrun hr k1 k2 HH t0 t1 t2 HKK
        go_wp2
        go_roundg (gk)
        case measure => omega
        case rel => exact ⟨c2, s2, HF.out⟩
end
end Go.Proofs.Ytfloblofdkemlaa
