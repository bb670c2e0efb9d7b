/-
  No cell of these rows narrows 'for every input' (looked for: loops, veiled, ifaces, maps, wideKeys, modest, calm, conditions, laid).
  DERIVED. THE GIVEN ROWS OF THIS SEAT. 6 by the template 'for every input the law returns true; each argument reads behind the call as it read before'; 0 by the template 'total and deterministic' (their statements: YtfloblofdkemlaaTotals.lean).
  GIVEN WITH THE SEED: the statements are not yours to turn. If you find one false, say at which input.
  Laid BY PROGRAM, IN A SANDBOX (cutbox-rows.mjs): the forced cells as the released guide's own fill.sh prints them over the translation 25256a6251bc1e10… (all of the seat's roots in one cut). By AI agents, Wed Nov 11 2026. No macro, syntax, notation, axiom, sorry.
-/
import Derived.Test.YtfloblofdkemlaaChecked
import GoSem.Claim
import GoSem.ClaimJoined
import GoSem.ClaimMapViews
import Derived.JoinedTies
import Derived.KernelRfl
namespace Go.Proofs.Ytfloblofdkemlaa
/- THE CELL 'sum', in the pinned program and in every row, IS THE sha256 OF THE DUMP (.gsa) THAT YtfloblofdkemlaaProg.lean LOADS. Nothing in Lean hashes anything: it is a label: what it is worth is what the hold of that sum in a sandbox is worth. -/
noncomputable def Try.pinned : Pinned := { name := "ytfloblofdkemlaa", sum := "25256a6251bc1e10b2bb0245d36831c013458233742938f45fdb61421dffd681", checked := Try.checked }
namespace Rows
def none {H : Type} : Left H := { results := [], args := [] }

/-- 'boscagelaw08.WorldNew': WHATEVER THE INPUT: true; the input reads as it did. -/
def worldNewSpec : ChangeSpec := { name := "worldNew", fn := fun _ => fun
  | [d1, d2, d3, d4, d5] => { results := [.lit (.bool true)], args := [d1, d2, d3, d4, d5] }
  | _ => none }
def worldNewRow : OpenClaim := { program := "ytfloblofdkemlaa", sum := "25256a6251bc1e10b2bb0245d36831c013458233742938f45fdb61421dffd681", func := "boscage/boscagelaw08.WorldNew", spec := "worldNew", unfollowed := true, recurses := true, apart := false }
def WorldNewSaid : Prop := worldNewRow.holds Try.pinned (OpenSpec.ofChange worldNewSpec)

/-- ITS FALSE NEIGHBOUR: 'it returns false'. Refute it at one input. -/
def worldNewWrong : ChangeSpec := { name := "worldNew", fn := fun _ => fun
  | [d1, d2, d3, d4, d5] => { results := [.lit (.bool false)], args := [d1, d2, d3, d4, d5] }
  | _ => none }
def WorldNewWrongFalsely : Prop := worldNewRow.holds Try.pinned (OpenSpec.ofChange worldNewWrong)

/-- 'boscagelaw09.HelpAlone': WHATEVER THE INPUT: true; the input reads as it did. -/
def helpAloneSpec : ChangeSpec := { name := "helpAlone", fn := fun _ => fun
  | [d1, d2, d3, d4, d5, d6] => { results := [.lit (.bool true)], args := [d1, d2, d3, d4, d5, d6] }
  | _ => none }
def helpAloneRow : OpenClaim := { program := "ytfloblofdkemlaa", sum := "25256a6251bc1e10b2bb0245d36831c013458233742938f45fdb61421dffd681", func := "boscage/boscagelaw09.HelpAlone", spec := "helpAlone", unfollowed := true, recurses := true, apart := false }
def HelpAloneSaid : Prop := helpAloneRow.holds Try.pinned (OpenSpec.ofChange helpAloneSpec)

/-- ITS FALSE NEIGHBOUR: 'it returns false'. Refute it at one input. -/
def helpAloneWrong : ChangeSpec := { name := "helpAlone", fn := fun _ => fun
  | [d1, d2, d3, d4, d5, d6] => { results := [.lit (.bool false)], args := [d1, d2, d3, d4, d5, d6] }
  | _ => none }
def HelpAloneWrongFalsely : Prop := helpAloneRow.holds Try.pinned (OpenSpec.ofChange helpAloneWrong)

/-- 'boscagelaw09.HelpMany': WHATEVER THE INPUT: true; the input reads as it did. -/
def helpManySpec : ChangeSpec := { name := "helpMany", fn := fun _ => fun
  | [d1, d2, d3, d4, d5] => { results := [.lit (.bool true)], args := [d1, d2, d3, d4, d5] }
  | _ => none }
def helpManyRow : OpenClaim := { program := "ytfloblofdkemlaa", sum := "25256a6251bc1e10b2bb0245d36831c013458233742938f45fdb61421dffd681", func := "boscage/boscagelaw09.HelpMany", spec := "helpMany", unfollowed := true, recurses := true, apart := false }
def HelpManySaid : Prop := helpManyRow.holds Try.pinned (OpenSpec.ofChange helpManySpec)

/-- ITS FALSE NEIGHBOUR: 'it returns false'. Refute it at one input. -/
def helpManyWrong : ChangeSpec := { name := "helpMany", fn := fun _ => fun
  | [d1, d2, d3, d4, d5] => { results := [.lit (.bool false)], args := [d1, d2, d3, d4, d5] }
  | _ => none }
def HelpManyWrongFalsely : Prop := helpManyRow.holds Try.pinned (OpenSpec.ofChange helpManyWrong)

/-- 'boscagelaw09.HelpRivals': WHATEVER THE INPUT: true; the input reads as it did. -/
def helpRivalsSpec : ChangeSpec := { name := "helpRivals", fn := fun _ => fun
  | [d1, d2, d3, d4] => { results := [.lit (.bool true)], args := [d1, d2, d3, d4] }
  | _ => none }
def helpRivalsRow : OpenClaim := { program := "ytfloblofdkemlaa", sum := "25256a6251bc1e10b2bb0245d36831c013458233742938f45fdb61421dffd681", func := "boscage/boscagelaw09.HelpRivals", spec := "helpRivals", unfollowed := true, recurses := true, apart := false }
def HelpRivalsSaid : Prop := helpRivalsRow.holds Try.pinned (OpenSpec.ofChange helpRivalsSpec)

/-- ITS FALSE NEIGHBOUR: 'it returns false'. Refute it at one input. -/
def helpRivalsWrong : ChangeSpec := { name := "helpRivals", fn := fun _ => fun
  | [d1, d2, d3, d4] => { results := [.lit (.bool false)], args := [d1, d2, d3, d4] }
  | _ => none }
def HelpRivalsWrongFalsely : Prop := helpRivalsRow.holds Try.pinned (OpenSpec.ofChange helpRivalsWrong)

/-- 'boscagelaw09.HelpAgain': WHATEVER THE INPUT: true; the input reads as it did. -/
def helpAgainSpec : ChangeSpec := { name := "helpAgain", fn := fun _ => fun
  | [d1, d2, d3] => { results := [.lit (.bool true)], args := [d1, d2, d3] }
  | _ => none }
def helpAgainRow : OpenClaim := { program := "ytfloblofdkemlaa", sum := "25256a6251bc1e10b2bb0245d36831c013458233742938f45fdb61421dffd681", func := "boscage/boscagelaw09.HelpAgain", spec := "helpAgain", unfollowed := true, recurses := true, apart := false }
def HelpAgainSaid : Prop := helpAgainRow.holds Try.pinned (OpenSpec.ofChange helpAgainSpec)

/-- ITS FALSE NEIGHBOUR: 'it returns false'. Refute it at one input. -/
def helpAgainWrong : ChangeSpec := { name := "helpAgain", fn := fun _ => fun
  | [d1, d2, d3] => { results := [.lit (.bool false)], args := [d1, d2, d3] }
  | _ => none }
def HelpAgainWrongFalsely : Prop := helpAgainRow.holds Try.pinned (OpenSpec.ofChange helpAgainWrong)

/-- 'boscagelaw09.HelpNone': WHATEVER THE INPUT: true; the input reads as it did. -/
def helpNoneSpec : ChangeSpec := { name := "helpNone", fn := fun _ => fun
  | [d] => { results := [.lit (.bool true)], args := [d] }
  | _ => none }
def helpNoneRow : OpenClaim := { program := "ytfloblofdkemlaa", sum := "25256a6251bc1e10b2bb0245d36831c013458233742938f45fdb61421dffd681", func := "boscage/boscagelaw09.HelpNone", spec := "helpNone", unfollowed := true, recurses := true, apart := false }
def HelpNoneSaid : Prop := helpNoneRow.holds Try.pinned (OpenSpec.ofChange helpNoneSpec)

/-- ITS FALSE NEIGHBOUR: 'it returns false'. Refute it at one input. -/
def helpNoneWrong : ChangeSpec := { name := "helpNone", fn := fun _ => fun
  | [d] => { results := [.lit (.bool false)], args := [d] }
  | _ => none }
def HelpNoneWrongFalsely : Prop := helpNoneRow.holds Try.pinned (OpenSpec.ofChange helpNoneWrong)

/- THE SECOND FORM. 'bulk': how many values and letters a reading holds, each counted each time it is reached (what is shared counts as often as it is met; a slice's spare places count too). A statement '..UptoSaid' is the law's where the arguments, and the package variables that the reading takes, are together of bulk at most 1048576: NARROWER than '..Said'. Prove '..Said' where nothing that the law and all that it calls make is longer than what came in: it says more and counts as full. Else prove '..UptoSaid'. A law counts once. -/
mutual
def uptoBulk {H : Type} : DataW H → Nat
  | .lit (.string bytes) => bytes.length + 1
  | .lit _ => 1
  | .nil => 1
  | .ptr d => uptoBulk d + 1
  | .slice elems spare => uptoBulkAll elems + uptoBulkAll spare + 1
  | .agg parts => uptoBulkAll parts + 1
  | .iface _ d => uptoBulk d + 1
  | .map entries => uptoBulkEntries entries + 1
  | .held _ => 1
def uptoBulkAll {H : Type} : List (DataW H) → Nat
  | [] => 0
  | d :: r => uptoBulk d + uptoBulkAll r
def uptoBulkEntries {H : Type} : List (Lit × DataW H) → Nat
  | [] => 0
  | x :: r => uptoBulkEntry x + uptoBulkEntries r
def uptoBulkEntry {H : Type} : Lit × DataW H → Nat
  | (.string bytes, d) => bytes.length + uptoBulk d + 1
  | (_, d) => uptoBulk d + 1
 end
def uptoSmall : (H : Type) → List (DataW H) → Bool := fun _ ds => decide (uptoBulkAll ds ≤ 1048576)
def OpenSpec.upto (s : _root_.Go.ChangeSpec) : _root_.Go.OpenSpec := { _root_.Go.OpenSpec.ofChange s with cond := some uptoSmall }

/-- 'boscagelaw08.WorldNew', WHERE WHAT IT READS IS OF BULK AT MOST 1048576: true; the input reads as it did. -/
def worldNewUptoRow : OpenClaim := { program := "ytfloblofdkemlaa", sum := "25256a6251bc1e10b2bb0245d36831c013458233742938f45fdb61421dffd681", func := "boscage/boscagelaw08.WorldNew", spec := "worldNew", unfollowed := true, recurses := true, apart := false, narrowed := true }
def WorldNewUptoSaid : Prop := worldNewUptoRow.holds Try.pinned (OpenSpec.upto worldNewSpec)

/-- 'boscagelaw09.HelpAlone', WHERE WHAT IT READS IS OF BULK AT MOST 1048576: true; the input reads as it did. -/
def helpAloneUptoRow : OpenClaim := { program := "ytfloblofdkemlaa", sum := "25256a6251bc1e10b2bb0245d36831c013458233742938f45fdb61421dffd681", func := "boscage/boscagelaw09.HelpAlone", spec := "helpAlone", unfollowed := true, recurses := true, apart := false, narrowed := true }
def HelpAloneUptoSaid : Prop := helpAloneUptoRow.holds Try.pinned (OpenSpec.upto helpAloneSpec)

/-- 'boscagelaw09.HelpMany', WHERE WHAT IT READS IS OF BULK AT MOST 1048576: true; the input reads as it did. -/
def helpManyUptoRow : OpenClaim := { program := "ytfloblofdkemlaa", sum := "25256a6251bc1e10b2bb0245d36831c013458233742938f45fdb61421dffd681", func := "boscage/boscagelaw09.HelpMany", spec := "helpMany", unfollowed := true, recurses := true, apart := false, narrowed := true }
def HelpManyUptoSaid : Prop := helpManyUptoRow.holds Try.pinned (OpenSpec.upto helpManySpec)

/-- 'boscagelaw09.HelpRivals', WHERE WHAT IT READS IS OF BULK AT MOST 1048576: true; the input reads as it did. -/
def helpRivalsUptoRow : OpenClaim := { program := "ytfloblofdkemlaa", sum := "25256a6251bc1e10b2bb0245d36831c013458233742938f45fdb61421dffd681", func := "boscage/boscagelaw09.HelpRivals", spec := "helpRivals", unfollowed := true, recurses := true, apart := false, narrowed := true }
def HelpRivalsUptoSaid : Prop := helpRivalsUptoRow.holds Try.pinned (OpenSpec.upto helpRivalsSpec)

/-- 'boscagelaw09.HelpAgain', WHERE WHAT IT READS IS OF BULK AT MOST 1048576: true; the input reads as it did. -/
def helpAgainUptoRow : OpenClaim := { program := "ytfloblofdkemlaa", sum := "25256a6251bc1e10b2bb0245d36831c013458233742938f45fdb61421dffd681", func := "boscage/boscagelaw09.HelpAgain", spec := "helpAgain", unfollowed := true, recurses := true, apart := false, narrowed := true }
def HelpAgainUptoSaid : Prop := helpAgainUptoRow.holds Try.pinned (OpenSpec.upto helpAgainSpec)

/-- 'boscagelaw09.HelpNone', WHERE WHAT IT READS IS OF BULK AT MOST 1048576: true; the input reads as it did. -/
def helpNoneUptoRow : OpenClaim := { program := "ytfloblofdkemlaa", sum := "25256a6251bc1e10b2bb0245d36831c013458233742938f45fdb61421dffd681", func := "boscage/boscagelaw09.HelpNone", spec := "helpNone", unfollowed := true, recurses := true, apart := false, narrowed := true }
def HelpNoneUptoSaid : Prop := helpNoneUptoRow.holds Try.pinned (OpenSpec.upto helpNoneSpec)

end Rows
end Go.Proofs.Ytfloblofdkemlaa
