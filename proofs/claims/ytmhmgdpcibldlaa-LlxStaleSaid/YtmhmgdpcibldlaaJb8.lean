/-
  The laws' work: Begin; Begin and End.
-/
import Derived.Test.YtmhmgdpcibldlaaIv8
namespace Go.Proofs.Ytmhmgdpcibldlaa
open Go.ChangeShapes Go.WideShapes Go.ChangeAt Go.RowKit
set_option linter.unusedVariables false
set_option linter.unusedSimpArgs false
set_option maxRecDepth 20000

/-- Work that a law hands in, wherever R's blocks are as they were in w. -/
def Job {α : Type} (d : Wd) (R : Nat → Prop) (w : World) (F me : Nat) (capw : Array Value) (P : Sig → Prop) (t : Tr α) (out : α → List Int) : Prop :=
  ∀ a wk R' w', (∀ b, R b → R' b) → (∀ b, R b → w'.heap[b]? = w.heap[b]?) → Works d R' w' a F (#[tkV a d.W me] ++ capw) wk P t out
def nilOut (u : Unit) : List Int := []
def tBE (N L i : Nat) : Tr Unit := (tBegin N L i).bind fun _ => tEnd i
section
variable {d : Wd} {R R' : Nat → Prop} {w w' w0 : World} {a st ph k me L : Nat} {wk : Value} {zs : List Int} {c : Cur} {s : Sig} {n : Int}
theorem PostW.of {o : Out Unit} {e : Ending} {e' : Ending} (h : Post d R w a wk uV o e w') (he : ∀ v c s, o = .ret v c s → e' = .returned (.slice none 0 0)) (hw : ∀ zs st s, o = .wait zs st s → e' = e) : PostW d R w a wk nilOut o e' w' := by
  cases o with
  | ret v c s => exact ⟨h.1, ⟨none, 0, 0, he v c s rfl, Sl.nil _, by simp [nilOut]⟩, h.2.2⟩
  | wait zs st s => exact ⟨h.1, (hw zs st s rfl).trans h.2.1, h.2.2⟩
theorem tBE_len (N L i : Nat) (hL : lenP L s) {v : Unit} {c' : Cur} {s' : Sig} (h : run (tBegin N L i) c s = .ret v c' s') : lenP L s' := by
  refine run_keeps (P := lenP L) ?_ hL h
  refine ⟨fun s e => e, fun z => ⟨fun s e => (gSay_len i z s).trans e, fun _ => keeps_bind (lenP_all L z L 0) fun b => keeps_bind ?_ fun _ => ⟨fun s e => e, fun n => ?_⟩⟩⟩
  · unfold tSwap
    split
    · exact ⟨fun s e => (by unfold lenP; rw [gSwap_len]; exact e), fun _ => trivial⟩
    · exact trivial
  · clear h
    induction N with
    | zero => exact trivial
    | succ N ih =>
      refine ⟨fun s e => ?_, fun z => ?_⟩
      · unfold lenP at e ⊢
        have h1 : (gRdy i n s).2.S.length = s.S.length := by
          unfold gRdy
          split
          · split
            · simp
            · rfl
          · rfl
        simp only [gReady]
        split
        · rw [h1]; exact e
        · simp only [gFree]; rw [h1]; exact e
      · dsimp only
        split
        · exact trivial
        · exact ih
end
end Go.Proofs.Ytmhmgdpcibldlaa
