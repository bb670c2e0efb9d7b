/-
  No cell of these rows narrows 'for every input' (looked for: loops, veiled, ifaces, maps, wideKeys, modest, calm, conditions, laid).
  DERIVED. THE GIVEN ROWS OF THIS SEAT. 6 by the template 'for every input the law returns true; each argument reads behind the call as it read before'; 0 by the template 'total and deterministic' (their statements: YtmnldlhpiapalaaTotals.lean).
  GIVEN WITH THE SEED: the statements are not yours to turn. If you find one false, say at which input.
  Laid BY PROGRAM, IN A SANDBOX (cutbox-rows.mjs): the forced cells as the released guide's own fill.sh prints them over the translation cca67d0e682e9c85… (all of the seat's roots in one cut). By AI agents, Wed Nov 11 2026. No macro, syntax, notation, axiom, sorry.
-/
import Derived.Test.YtmnldlhpiapalaaChecked
import GoSem.Claim
import GoSem.ClaimJoined
import GoSem.ClaimMapViews
import Derived.JoinedTies
import Derived.KernelRfl
namespace Go.Proofs.Ytmnldlhpiapalaa
/- THE CELL 'sum', in the pinned program and in every row, IS THE sha256 OF THE DUMP (.gsa) THAT YtmnldlhpiapalaaProg.lean LOADS. Nothing in Lean hashes anything: it is a label: what it is worth is what the hold of that sum in a sandbox is worth. -/
noncomputable def Try.pinned : Pinned := { name := "ytmnldlhpiapalaa", sum := "cca67d0e682e9c8598d44bf6b5bab8d337e3ffb1be57bd9ba6d4e5dd78ed1688", checked := Try.checked }
namespace Rows
def none {H : Type} : Left H := { results := [], args := [] }

/-- 'boscagelaw09.HelpAlone': WHATEVER THE INPUT: true; the input reads as it did. -/
def helpAloneSpec : ChangeSpec := { name := "helpAlone", fn := fun _ => fun
  | [d1, d2, d3, d4, d5, d6] => { results := [.lit (.bool true)], args := [d1, d2, d3, d4, d5, d6] }
  | _ => none }
def helpAloneRow : OpenClaim := { program := "ytmnldlhpiapalaa", sum := "cca67d0e682e9c8598d44bf6b5bab8d337e3ffb1be57bd9ba6d4e5dd78ed1688", func := "boscage/boscagelaw09.HelpAlone", spec := "helpAlone", unfollowed := true, recurses := true, apart := false }
def HelpAloneSaid : Prop := helpAloneRow.holds Try.pinned (OpenSpec.ofChange helpAloneSpec)

/-- ITS FALSE NEIGHBOUR: 'it returns false'. Refute it at one input. -/
def helpAloneWrong : ChangeSpec := { name := "helpAlone", fn := fun _ => fun
  | [d1, d2, d3, d4, d5, d6] => { results := [.lit (.bool false)], args := [d1, d2, d3, d4, d5, d6] }
  | _ => none }
def HelpAloneWrongFalsely : Prop := helpAloneRow.holds Try.pinned (OpenSpec.ofChange helpAloneWrong)

/-- 'boscagelaw10.LlxRace': WHATEVER THE INPUT: true; the input reads as it did. -/
def llxRaceSpec : ChangeSpec := { name := "llxRace", fn := fun _ => fun
  | [d1, d2] => { results := [.lit (.bool true)], args := [d1, d2] }
  | _ => none }
def llxRaceRow : OpenClaim := { program := "ytmnldlhpiapalaa", sum := "cca67d0e682e9c8598d44bf6b5bab8d337e3ffb1be57bd9ba6d4e5dd78ed1688", func := "boscage/boscagelaw10.LlxRace", spec := "llxRace", unfollowed := true, recurses := true, apart := false }
def LlxRaceSaid : Prop := llxRaceRow.holds Try.pinned (OpenSpec.ofChange llxRaceSpec)

/-- ITS FALSE NEIGHBOUR: 'it returns false'. Refute it at one input. -/
def llxRaceWrong : ChangeSpec := { name := "llxRace", fn := fun _ => fun
  | [d1, d2] => { results := [.lit (.bool false)], args := [d1, d2] }
  | _ => none }
def LlxRaceWrongFalsely : Prop := llxRaceRow.holds Try.pinned (OpenSpec.ofChange llxRaceWrong)

/-- 'boscagelaw10.LlxStill': WHATEVER THE INPUT: true; the input reads as it did. -/
def llxStillSpec : ChangeSpec := { name := "llxStill", fn := fun _ => fun
  | [d1, d2] => { results := [.lit (.bool true)], args := [d1, d2] }
  | _ => none }
def llxStillRow : OpenClaim := { program := "ytmnldlhpiapalaa", sum := "cca67d0e682e9c8598d44bf6b5bab8d337e3ffb1be57bd9ba6d4e5dd78ed1688", func := "boscage/boscagelaw10.LlxStill", spec := "llxStill", unfollowed := true, recurses := true, apart := false }
def LlxStillSaid : Prop := llxStillRow.holds Try.pinned (OpenSpec.ofChange llxStillSpec)

/-- ITS FALSE NEIGHBOUR: 'it returns false'. Refute it at one input. -/
def llxStillWrong : ChangeSpec := { name := "llxStill", fn := fun _ => fun
  | [d1, d2] => { results := [.lit (.bool false)], args := [d1, d2] }
  | _ => none }
def LlxStillWrongFalsely : Prop := llxStillRow.holds Try.pinned (OpenSpec.ofChange llxStillWrong)

/-- 'boscagelaw11.SeekPaths': WHATEVER THE INPUT: true; the input reads as it did. -/
def seekPathsSpec : ChangeSpec := { name := "seekPaths", fn := fun _ => fun
  | [d1, d2, d3] => { results := [.lit (.bool true)], args := [d1, d2, d3] }
  | _ => none }
def seekPathsRow : OpenClaim := { program := "ytmnldlhpiapalaa", sum := "cca67d0e682e9c8598d44bf6b5bab8d337e3ffb1be57bd9ba6d4e5dd78ed1688", func := "boscage/boscagelaw11.SeekPaths", spec := "seekPaths", unfollowed := true, recurses := true, apart := false }
def SeekPathsSaid : Prop := seekPathsRow.holds Try.pinned (OpenSpec.ofChange seekPathsSpec)

/-- ITS FALSE NEIGHBOUR: 'it returns false'. Refute it at one input. -/
def seekPathsWrong : ChangeSpec := { name := "seekPaths", fn := fun _ => fun
  | [d1, d2, d3] => { results := [.lit (.bool false)], args := [d1, d2, d3] }
  | _ => none }
def SeekPathsWrongFalsely : Prop := seekPathsRow.holds Try.pinned (OpenSpec.ofChange seekPathsWrong)

/-- 'boscagelaw11.SeekLeaf': WHATEVER THE INPUT: true; the input reads as it did. -/
def seekLeafSpec : ChangeSpec := { name := "seekLeaf", fn := fun _ => fun
  | [d1, d2, d3] => { results := [.lit (.bool true)], args := [d1, d2, d3] }
  | _ => none }
def seekLeafRow : OpenClaim := { program := "ytmnldlhpiapalaa", sum := "cca67d0e682e9c8598d44bf6b5bab8d337e3ffb1be57bd9ba6d4e5dd78ed1688", func := "boscage/boscagelaw11.SeekLeaf", spec := "seekLeaf", unfollowed := true, recurses := true, apart := false }
def SeekLeafSaid : Prop := seekLeafRow.holds Try.pinned (OpenSpec.ofChange seekLeafSpec)

/-- ITS FALSE NEIGHBOUR: 'it returns false'. Refute it at one input. -/
def seekLeafWrong : ChangeSpec := { name := "seekLeaf", fn := fun _ => fun
  | [d1, d2, d3] => { results := [.lit (.bool false)], args := [d1, d2, d3] }
  | _ => none }
def SeekLeafWrongFalsely : Prop := seekLeafRow.holds Try.pinned (OpenSpec.ofChange seekLeafWrong)

/-- 'boscagelaw11.SeekFinds': WHATEVER THE INPUT: true; the input reads as it did. -/
def seekFindsSpec : ChangeSpec := { name := "seekFinds", fn := fun _ => fun
  | [d1, d2] => { results := [.lit (.bool true)], args := [d1, d2] }
  | _ => none }
def seekFindsRow : OpenClaim := { program := "ytmnldlhpiapalaa", sum := "cca67d0e682e9c8598d44bf6b5bab8d337e3ffb1be57bd9ba6d4e5dd78ed1688", func := "boscage/boscagelaw11.SeekFinds", spec := "seekFinds", unfollowed := true, recurses := true, apart := false }
def SeekFindsSaid : Prop := seekFindsRow.holds Try.pinned (OpenSpec.ofChange seekFindsSpec)

/-- ITS FALSE NEIGHBOUR: 'it returns false'. Refute it at one input. -/
def seekFindsWrong : ChangeSpec := { name := "seekFinds", fn := fun _ => fun
  | [d1, d2] => { results := [.lit (.bool false)], args := [d1, d2] }
  | _ => none }
def SeekFindsWrongFalsely : Prop := seekFindsRow.holds Try.pinned (OpenSpec.ofChange seekFindsWrong)

/- THE SECOND FORM. 'bulk': how many values and letters a reading holds, each counted each time it is reached (what is shared counts as often as it is met; a slice's spare places count too). A statement '..UptoSaid' is the law's where the arguments, and the package variables that the reading takes, are together of bulk at most 1048576: NARROWER than '..Said'. Prove '..Said' where nothing that the law and all that it calls make is longer than what came in: it says more and counts as full. Else prove '..UptoSaid'. A law counts once. -/
mutual
def uptoBulk {H : Type} : DataW H → Nat
  | .lit (.string bytes) => bytes.length + 1
  | .lit _ => 1
  | .nil => 1
  | .ptr d => uptoBulk d + 1
  | .slice elems spare => uptoBulkAll elems + uptoBulkAll spare + 1
  | .agg parts => uptoBulkAll parts + 1
  | .iface _ d => uptoBulk d + 1
  | .map entries => uptoBulkEntries entries + 1
  | .held _ => 1
def uptoBulkAll {H : Type} : List (DataW H) → Nat
  | [] => 0
  | d :: r => uptoBulk d + uptoBulkAll r
def uptoBulkEntries {H : Type} : List (Lit × DataW H) → Nat
  | [] => 0
  | x :: r => uptoBulkEntry x + uptoBulkEntries r
def uptoBulkEntry {H : Type} : Lit × DataW H → Nat
  | (.string bytes, d) => bytes.length + uptoBulk d + 1
  | (_, d) => uptoBulk d + 1
 end
def uptoSmall : (H : Type) → List (DataW H) → Bool := fun _ ds => decide (uptoBulkAll ds ≤ 1048576)
def OpenSpec.upto (s : _root_.Go.ChangeSpec) : _root_.Go.OpenSpec := { _root_.Go.OpenSpec.ofChange s with cond := some uptoSmall }

/-- 'boscagelaw09.HelpAlone', WHERE WHAT IT READS IS OF BULK AT MOST 1048576: true; the input reads as it did. -/
def helpAloneUptoRow : OpenClaim := { program := "ytmnldlhpiapalaa", sum := "cca67d0e682e9c8598d44bf6b5bab8d337e3ffb1be57bd9ba6d4e5dd78ed1688", func := "boscage/boscagelaw09.HelpAlone", spec := "helpAlone", unfollowed := true, recurses := true, apart := false, narrowed := true }
def HelpAloneUptoSaid : Prop := helpAloneUptoRow.holds Try.pinned (OpenSpec.upto helpAloneSpec)

/-- 'boscagelaw10.LlxRace', WHERE WHAT IT READS IS OF BULK AT MOST 1048576: true; the input reads as it did. -/
def llxRaceUptoRow : OpenClaim := { program := "ytmnldlhpiapalaa", sum := "cca67d0e682e9c8598d44bf6b5bab8d337e3ffb1be57bd9ba6d4e5dd78ed1688", func := "boscage/boscagelaw10.LlxRace", spec := "llxRace", unfollowed := true, recurses := true, apart := false, narrowed := true }
def LlxRaceUptoSaid : Prop := llxRaceUptoRow.holds Try.pinned (OpenSpec.upto llxRaceSpec)

/-- 'boscagelaw10.LlxStill', WHERE WHAT IT READS IS OF BULK AT MOST 1048576: true; the input reads as it did. -/
def llxStillUptoRow : OpenClaim := { program := "ytmnldlhpiapalaa", sum := "cca67d0e682e9c8598d44bf6b5bab8d337e3ffb1be57bd9ba6d4e5dd78ed1688", func := "boscage/boscagelaw10.LlxStill", spec := "llxStill", unfollowed := true, recurses := true, apart := false, narrowed := true }
def LlxStillUptoSaid : Prop := llxStillUptoRow.holds Try.pinned (OpenSpec.upto llxStillSpec)

/-- 'boscagelaw11.SeekPaths', WHERE WHAT IT READS IS OF BULK AT MOST 1048576: true; the input reads as it did. -/
def seekPathsUptoRow : OpenClaim := { program := "ytmnldlhpiapalaa", sum := "cca67d0e682e9c8598d44bf6b5bab8d337e3ffb1be57bd9ba6d4e5dd78ed1688", func := "boscage/boscagelaw11.SeekPaths", spec := "seekPaths", unfollowed := true, recurses := true, apart := false, narrowed := true }
def SeekPathsUptoSaid : Prop := seekPathsUptoRow.holds Try.pinned (OpenSpec.upto seekPathsSpec)

/-- 'boscagelaw11.SeekLeaf', WHERE WHAT IT READS IS OF BULK AT MOST 1048576: true; the input reads as it did. -/
def seekLeafUptoRow : OpenClaim := { program := "ytmnldlhpiapalaa", sum := "cca67d0e682e9c8598d44bf6b5bab8d337e3ffb1be57bd9ba6d4e5dd78ed1688", func := "boscage/boscagelaw11.SeekLeaf", spec := "seekLeaf", unfollowed := true, recurses := true, apart := false, narrowed := true }
def SeekLeafUptoSaid : Prop := seekLeafUptoRow.holds Try.pinned (OpenSpec.upto seekLeafSpec)

/-- 'boscagelaw11.SeekFinds', WHERE WHAT IT READS IS OF BULK AT MOST 1048576: true; the input reads as it did. -/
def seekFindsUptoRow : OpenClaim := { program := "ytmnldlhpiapalaa", sum := "cca67d0e682e9c8598d44bf6b5bab8d337e3ffb1be57bd9ba6d4e5dd78ed1688", func := "boscage/boscagelaw11.SeekFinds", spec := "seekFinds", unfollowed := true, recurses := true, apart := false, narrowed := true }
def SeekFindsUptoSaid : Prop := seekFindsUptoRow.holds Try.pinned (OpenSpec.upto seekFindsSpec)

end Rows
end Go.Proofs.Ytmnldlhpiapalaa
