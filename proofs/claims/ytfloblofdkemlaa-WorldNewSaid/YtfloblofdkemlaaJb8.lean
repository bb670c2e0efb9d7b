/-
  The laws' work: Begin; Begin and End.
-/
import Derived.Test.YtfloblofdkemlaaIv8
namespace Go.Proofs.Ytfloblofdkemlaa
open Go.ChangeShapes Go.WideShapes Go.ChangeAt Go.RowKit
set_option linter.unusedVariables false
set_option linter.unusedSimpArgs false
set_option maxRecDepth 20000

/-- Work that a law hands in, wherever R's blocks are as they were in w. -/
def Job {α : Type} (d : Wd) (R : Nat → Prop) (w : World) (F me : Nat) (capw : Array Value) (P : Sig → Prop) (t : Tr α) (out : α → List Int) : Prop :=
  ∀ a wk R' w', (∀ b, R b → R' b) → (∀ b, R b → w'.heap[b]? = w.heap[b]?) → Works d R' w' a F (#[tkV a d.W me] ++ capw) wk P t out
def nilOut (u : Unit) : List Int := []
def tBE (N L i : Nat) : Tr Unit := (tBegin N L i).bind fun _ => tEnd i
section
variable {d : Wd} {R R' : Nat → Prop} {w w' w0 : World} {a st ph k me L : Nat} {wk : Value} {zs : List Int} {c : Cur} {s : Sig} {n : Int}
theorem PostW.of {o : Out Unit} {e : Ending} {e' : Ending} (h : Post d R w a wk uV o e w') (he : ∀ v c s, o = .ret v c s → e' = .returned (.slice none 0 0)) (hw : ∀ zs st s, o = .wait zs st s → e' = e) : PostW d R w a wk nilOut o e' w' := by
  cases o with
  | ret v c s => exact ⟨h.1, ⟨none, 0, 0, he v c s rfl, Sl.nil _, by simp [nilOut]⟩, h.2.2⟩
  | wait zs st s => exact ⟨h.1, (hw zs st s rfl).trans h.2.1, h.2.2⟩
theorem tBE_len (N L i : Nat) (hL : lenP L s) {v : Unit} {c' : Cur} {s' : Sig} (h : run (tBegin N L i) c s = .ret v c' s') : lenP L s' := by
  refine run_keeps (P := lenP L) ?_ hL h
  refine ⟨fun s e => e, fun z => ⟨fun s e => (gSay_len i z s).trans e, fun _ => keeps_bind (lenP_all L z L 0) fun b => keeps_bind ?_ fun _ => ⟨fun s e => e, fun n => ?_⟩⟩⟩
  · unfold tSwap
    split
    · exact ⟨fun s e => (by unfold lenP; rw [gSwap_len]; exact e), fun _ => trivial⟩
    · exact trivial
  · clear h
    induction N with
    | zero => exact trivial
    | succ N ih =>
      refine ⟨fun s e => ?_, fun z => ?_⟩
      · unfold lenP at e ⊢
        have h1 : (gRdy i n s).2.S.length = s.S.length := by
          unfold gRdy
          split
          · split
            · simp
            · rfl
          · rfl
        simp only [gReady]
        split
        · rw [h1]; exact e
        · simp only [gFree]; rw [h1]; exact e
      · dsimp only
        split
        · exact trivial
        · exact ih
theorem awk1_walk (h : Lv d R w a wk c s) (hi : me < s.S.length) (hL : s.S.length ≤ 64) (hN : c.zs.length ≤ 900) :
    Calls Try.prog 36 #[tkV a d.W me] w (PostW d R w a wk nilOut (run (tBegin 1000 s.S.length me) c s)) := by
  obtain ⟨W, p, hW, hp, bb, tk, hsz⟩ := one_box w a d.W me
  have HD := Lib.hid (begin_touch (N := 1000) (h.below bb) hi hL (fun _ => by omega) (by omega))
  have HK := Lib.hid (Kp.new h bb)
  obtain ⟨t0, t1, t2⟩ := tk
  clear h bb hsz
  generalize run (tBegin 1000 s.S.length me) c s = o at HD ⊢
  go_enter Try.func36, Try.ntmps36
  go_wp2_with fail
  refine HD.out.mono ?_
  clear HD
  intro e w1 hP
  have hP2 := Post.from_ HK.out hP
  cases o with
  | wait zs st s' =>
    obtain ⟨-, rfl, -⟩ := hP
    exact ⟨rfl, PostW.of hP2 (fun _ _ _ e => by cases e) (fun _ _ _ _ => rfl)⟩
  | ret z c' s' =>
    obtain ⟨-, rfl, -⟩ := hP
    have HE := Lib.hid (PostW.of (e' := .returned (.slice none 0 0)) hP2 (fun _ _ _ _ => rfl) (fun _ _ _ e => by cases e))
    clear hP2 t0 t1 t2 HK
    go_wp2
    go_ret
    exact HE.out
theorem awk1_job (d : Wd) (R : Nat → Prop) (w : World) (hi : me < L) : Job d R w 36 me #[] (Inv L 0) (tBegin 1000 L me) nilOut := by
  intro a wk R' w' _ _ w1 R1 zs st s _ _ h3 h4 h5
  have := awk1_walk h5 (by rw [h4.len]; exact hi) (by rw [h4.len]; exact h4.l64) h3
  rw [h4.len] at this
  exact this
/-- What was started goes on alone. -/
theorem started_alone {α : Type} {F B : Nat} {capw : Array Value} {t : Tr α} {out : α → List Int} {e : Ending} (hS : Started d R w me F capw s e w') (hen : ∀ (a : Nat) (W : World), (callFunc F (#[tkV a d.W me] ++ capw)).run Try.prog W = .ok (.enter F (#[tkV a d.W me] ++ capw)) W)
    (hJ : Job d R w F me capw (Inv L 0) t out) (hR : ∀ b, R b → b < w.heap.size) (ht : tame L t) (hI : Inv L (B + (ev t s).2.2) s) (hm : (ev t s).2.2 ≤ 400) (hl : (out (ev t s).1).length ≤ 1000) :
    ∃ a, e = .returned (ptr a) ∧ Calls Try.prog 26 #[ptr a] w' fun e w2 => AloneP d R w out (ev t s) e w2 ∧ Inv L B (ev t s).2.1 := by
  obtain ⟨a, B1, B2, B3, rfl, hx, hr, hb, l1, l2, l3, l4, l5⟩ := hS
  refine ⟨a, rfl, ?_⟩
  have hT := tame_all ht s B hI
  have hW := start_works (d := d) (me := me) (g := F) (capw := capw) rfl (hen a) hx (.inr (.inl rfl)) (.inr (.inr (.inl rfl))) (.inr (.inr (.inr rfl))) (hJ a (wkV B1 B2 B3) (fun b => R b ∨ b = B1 ∨ b = B2 ∨ b = B3) w' (fun b e => .inl e) (fun b e => hb.block b (hR b e)))
  refine (alone_walk (cap := #[ptr B3, ptr B1, ptr B2]) rfl (fun W => rfl) hW hr (fun s h => h.fit) (all_mono (fun s h => h.mono (Nat.zero_le _)) hT.1) hm hl).mono ?_
  rintro e w2 ⟨A, n, q, rfl, r1, r2, r3⟩
  refine ⟨⟨A, n, q, rfl, r1.lower hb.size, r2.mono fun b e => ?_, (Kp.below hb hR).trans (r3.mono fun b e => .inl e)⟩, hT.2⟩
  rcases e with e | e
  · exact .inl (.inl e)
  · exact .inr e
end
end Go.Proofs.Ytfloblofdkemlaa
