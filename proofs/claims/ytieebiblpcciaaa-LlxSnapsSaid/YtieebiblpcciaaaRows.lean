/-
  No cell of these rows narrows 'for every input' (looked for: loops, veiled, ifaces, maps, wideKeys, modest, calm, conditions, laid).
  DERIVED. THE GIVEN ROWS OF THIS SEAT. 8 by the template 'for every input the law returns true; each argument reads behind the call as it read before'; 0 by the template 'total and deterministic' (their statements: YtieebiblpcciaaaTotals.lean).
  GIVEN WITH THE SEED: the statements are not yours to turn. If you find one false, say at which input.
  Laid BY PROGRAM, IN A SANDBOX (cutbox-rows.mjs): the forced cells as the released guide's own fill.sh prints them over the translation 245954e0962f2e41… (all of the seat's roots in one cut). By AI agents, Wed Nov 11 2026. No macro, syntax, notation, axiom, sorry.
-/
import Derived.Test.YtieebiblpcciaaaChecked
import GoSem.Claim
import GoSem.ClaimJoined
import GoSem.ClaimMapViews
import Derived.JoinedTies
import Derived.KernelRfl
namespace Go.Proofs.Ytieebiblpcciaaa
/- THE CELL 'sum', in the pinned program and in every row, IS THE sha256 OF THE DUMP (.gsa) THAT YtieebiblpcciaaaProg.lean LOADS. Nothing in Lean hashes anything: it is a label: what it is worth is what the hold of that sum in a sandbox is worth. -/
noncomputable def Try.pinned : Pinned := { name := "ytieebiblpcciaaa", sum := "245954e0962f2e417d061ad7568981e1dd70c8defd64ba2a6465372d7d6c87f8", checked := Try.checked }
namespace Rows
def none {H : Type} : Left H := { results := [], args := [] }

/-- 'boscagelaw09.HelpAlone': WHATEVER THE INPUT: true; the input reads as it did. -/
def helpAloneSpec : ChangeSpec := { name := "helpAlone", fn := fun _ => fun
  | [d1, d2, d3, d4, d5, d6] => { results := [.lit (.bool true)], args := [d1, d2, d3, d4, d5, d6] }
  | _ => none }
def helpAloneRow : OpenClaim := { program := "ytieebiblpcciaaa", sum := "245954e0962f2e417d061ad7568981e1dd70c8defd64ba2a6465372d7d6c87f8", func := "boscage/boscagelaw09.HelpAlone", spec := "helpAlone", unfollowed := true, recurses := true, apart := false }
def HelpAloneSaid : Prop := helpAloneRow.holds Try.pinned (OpenSpec.ofChange helpAloneSpec)

/-- ITS FALSE NEIGHBOUR: 'it returns false'. Refute it at one input. -/
def helpAloneWrong : ChangeSpec := { name := "helpAlone", fn := fun _ => fun
  | [d1, d2, d3, d4, d5, d6] => { results := [.lit (.bool false)], args := [d1, d2, d3, d4, d5, d6] }
  | _ => none }
def HelpAloneWrongFalsely : Prop := helpAloneRow.holds Try.pinned (OpenSpec.ofChange helpAloneWrong)

/-- 'boscagelaw10.LlxRace': WHATEVER THE INPUT: true; the input reads as it did. -/
def llxRaceSpec : ChangeSpec := { name := "llxRace", fn := fun _ => fun
  | [d1, d2] => { results := [.lit (.bool true)], args := [d1, d2] }
  | _ => none }
def llxRaceRow : OpenClaim := { program := "ytieebiblpcciaaa", sum := "245954e0962f2e417d061ad7568981e1dd70c8defd64ba2a6465372d7d6c87f8", func := "boscage/boscagelaw10.LlxRace", spec := "llxRace", unfollowed := true, recurses := true, apart := false }
def LlxRaceSaid : Prop := llxRaceRow.holds Try.pinned (OpenSpec.ofChange llxRaceSpec)

/-- ITS FALSE NEIGHBOUR: 'it returns false'. Refute it at one input. -/
def llxRaceWrong : ChangeSpec := { name := "llxRace", fn := fun _ => fun
  | [d1, d2] => { results := [.lit (.bool false)], args := [d1, d2] }
  | _ => none }
def LlxRaceWrongFalsely : Prop := llxRaceRow.holds Try.pinned (OpenSpec.ofChange llxRaceWrong)

/-- 'boscagelaw10.LlxStill': WHATEVER THE INPUT: true; the input reads as it did. -/
def llxStillSpec : ChangeSpec := { name := "llxStill", fn := fun _ => fun
  | [d1, d2] => { results := [.lit (.bool true)], args := [d1, d2] }
  | _ => none }
def llxStillRow : OpenClaim := { program := "ytieebiblpcciaaa", sum := "245954e0962f2e417d061ad7568981e1dd70c8defd64ba2a6465372d7d6c87f8", func := "boscage/boscagelaw10.LlxStill", spec := "llxStill", unfollowed := true, recurses := true, apart := false }
def LlxStillSaid : Prop := llxStillRow.holds Try.pinned (OpenSpec.ofChange llxStillSpec)

/-- ITS FALSE NEIGHBOUR: 'it returns false'. Refute it at one input. -/
def llxStillWrong : ChangeSpec := { name := "llxStill", fn := fun _ => fun
  | [d1, d2] => { results := [.lit (.bool false)], args := [d1, d2] }
  | _ => none }
def LlxStillWrongFalsely : Prop := llxStillRow.holds Try.pinned (OpenSpec.ofChange llxStillWrong)

/-- 'boscagelaw10.LlxSnaps': WHATEVER THE INPUT: true; the input reads as it did. -/
def llxSnapsSpec : ChangeSpec := { name := "llxSnaps", fn := fun _ => fun
  | [d1, d2, d3] => { results := [.lit (.bool true)], args := [d1, d2, d3] }
  | _ => none }
def llxSnapsRow : OpenClaim := { program := "ytieebiblpcciaaa", sum := "245954e0962f2e417d061ad7568981e1dd70c8defd64ba2a6465372d7d6c87f8", func := "boscage/boscagelaw10.LlxSnaps", spec := "llxSnaps", unfollowed := true, recurses := true, apart := false }
def LlxSnapsSaid : Prop := llxSnapsRow.holds Try.pinned (OpenSpec.ofChange llxSnapsSpec)

/-- ITS FALSE NEIGHBOUR: 'it returns false'. Refute it at one input. -/
def llxSnapsWrong : ChangeSpec := { name := "llxSnaps", fn := fun _ => fun
  | [d1, d2, d3] => { results := [.lit (.bool false)], args := [d1, d2, d3] }
  | _ => none }
def LlxSnapsWrongFalsely : Prop := llxSnapsRow.holds Try.pinned (OpenSpec.ofChange llxSnapsWrong)

/-- 'boscagelaw11.SeekPaths': WHATEVER THE INPUT: true; the input reads as it did. -/
def seekPathsSpec : ChangeSpec := { name := "seekPaths", fn := fun _ => fun
  | [d1, d2, d3] => { results := [.lit (.bool true)], args := [d1, d2, d3] }
  | _ => none }
def seekPathsRow : OpenClaim := { program := "ytieebiblpcciaaa", sum := "245954e0962f2e417d061ad7568981e1dd70c8defd64ba2a6465372d7d6c87f8", func := "boscage/boscagelaw11.SeekPaths", spec := "seekPaths", unfollowed := true, recurses := true, apart := false }
def SeekPathsSaid : Prop := seekPathsRow.holds Try.pinned (OpenSpec.ofChange seekPathsSpec)

/-- ITS FALSE NEIGHBOUR: 'it returns false'. Refute it at one input. -/
def seekPathsWrong : ChangeSpec := { name := "seekPaths", fn := fun _ => fun
  | [d1, d2, d3] => { results := [.lit (.bool false)], args := [d1, d2, d3] }
  | _ => none }
def SeekPathsWrongFalsely : Prop := seekPathsRow.holds Try.pinned (OpenSpec.ofChange seekPathsWrong)

/-- 'boscagelaw11.SeekLeaf': WHATEVER THE INPUT: true; the input reads as it did. -/
def seekLeafSpec : ChangeSpec := { name := "seekLeaf", fn := fun _ => fun
  | [d1, d2, d3] => { results := [.lit (.bool true)], args := [d1, d2, d3] }
  | _ => none }
def seekLeafRow : OpenClaim := { program := "ytieebiblpcciaaa", sum := "245954e0962f2e417d061ad7568981e1dd70c8defd64ba2a6465372d7d6c87f8", func := "boscage/boscagelaw11.SeekLeaf", spec := "seekLeaf", unfollowed := true, recurses := true, apart := false }
def SeekLeafSaid : Prop := seekLeafRow.holds Try.pinned (OpenSpec.ofChange seekLeafSpec)

/-- ITS FALSE NEIGHBOUR: 'it returns false'. Refute it at one input. -/
def seekLeafWrong : ChangeSpec := { name := "seekLeaf", fn := fun _ => fun
  | [d1, d2, d3] => { results := [.lit (.bool false)], args := [d1, d2, d3] }
  | _ => none }
def SeekLeafWrongFalsely : Prop := seekLeafRow.holds Try.pinned (OpenSpec.ofChange seekLeafWrong)

/-- 'boscagelaw11.SeekFinds': WHATEVER THE INPUT: true; the input reads as it did. -/
def seekFindsSpec : ChangeSpec := { name := "seekFinds", fn := fun _ => fun
  | [d1, d2] => { results := [.lit (.bool true)], args := [d1, d2] }
  | _ => none }
def seekFindsRow : OpenClaim := { program := "ytieebiblpcciaaa", sum := "245954e0962f2e417d061ad7568981e1dd70c8defd64ba2a6465372d7d6c87f8", func := "boscage/boscagelaw11.SeekFinds", spec := "seekFinds", unfollowed := true, recurses := true, apart := false }
def SeekFindsSaid : Prop := seekFindsRow.holds Try.pinned (OpenSpec.ofChange seekFindsSpec)

/-- ITS FALSE NEIGHBOUR: 'it returns false'. Refute it at one input. -/
def seekFindsWrong : ChangeSpec := { name := "seekFinds", fn := fun _ => fun
  | [d1, d2] => { results := [.lit (.bool false)], args := [d1, d2] }
  | _ => none }
def SeekFindsWrongFalsely : Prop := seekFindsRow.holds Try.pinned (OpenSpec.ofChange seekFindsWrong)

/-- 'boscagelaw11.SeekTurns': WHATEVER THE INPUT: true; the input reads as it did. -/
def seekTurnsSpec : ChangeSpec := { name := "seekTurns", fn := fun _ => fun
  | [d1, d2, d3, d4] => { results := [.lit (.bool true)], args := [d1, d2, d3, d4] }
  | _ => none }
def seekTurnsRow : OpenClaim := { program := "ytieebiblpcciaaa", sum := "245954e0962f2e417d061ad7568981e1dd70c8defd64ba2a6465372d7d6c87f8", func := "boscage/boscagelaw11.SeekTurns", spec := "seekTurns", unfollowed := true, recurses := true, apart := false }
def SeekTurnsSaid : Prop := seekTurnsRow.holds Try.pinned (OpenSpec.ofChange seekTurnsSpec)

/-- ITS FALSE NEIGHBOUR: 'it returns false'. Refute it at one input. -/
def seekTurnsWrong : ChangeSpec := { name := "seekTurns", fn := fun _ => fun
  | [d1, d2, d3, d4] => { results := [.lit (.bool false)], args := [d1, d2, d3, d4] }
  | _ => none }
def SeekTurnsWrongFalsely : Prop := seekTurnsRow.holds Try.pinned (OpenSpec.ofChange seekTurnsWrong)

/- THE SECOND FORM. 'bulk': how many values and letters a reading holds, each counted each time it is reached (what is shared counts as often as it is met; a slice's spare places count too). A statement '..UptoSaid' is the law's where the arguments, and the package variables that the reading takes, are together of bulk at most 1048576: NARROWER than '..Said'. Prove '..Said' where nothing that the law and all that it calls make is longer than what came in: it says more and counts as full. Else prove '..UptoSaid'. A law counts once. -/
mutual
def uptoBulk {H : Type} : DataW H → Nat
  | .lit (.string bytes) => bytes.length + 1
  | .lit _ => 1
  | .nil => 1
  | .ptr d => uptoBulk d + 1
  | .slice elems spare => uptoBulkAll elems + uptoBulkAll spare + 1
  | .agg parts => uptoBulkAll parts + 1
  | .iface _ d => uptoBulk d + 1
  | .map entries => uptoBulkEntries entries + 1
  | .held _ => 1
def uptoBulkAll {H : Type} : List (DataW H) → Nat
  | [] => 0
  | d :: r => uptoBulk d + uptoBulkAll r
def uptoBulkEntries {H : Type} : List (Lit × DataW H) → Nat
  | [] => 0
  | x :: r => uptoBulkEntry x + uptoBulkEntries r
def uptoBulkEntry {H : Type} : Lit × DataW H → Nat
  | (.string bytes, d) => bytes.length + uptoBulk d + 1
  | (_, d) => uptoBulk d + 1
 end
def uptoSmall : (H : Type) → List (DataW H) → Bool := fun _ ds => decide (uptoBulkAll ds ≤ 1048576)
def OpenSpec.upto (s : _root_.Go.ChangeSpec) : _root_.Go.OpenSpec := { _root_.Go.OpenSpec.ofChange s with cond := some uptoSmall }

/-- 'boscagelaw09.HelpAlone', WHERE WHAT IT READS IS OF BULK AT MOST 1048576: true; the input reads as it did. -/
def helpAloneUptoRow : OpenClaim := { program := "ytieebiblpcciaaa", sum := "245954e0962f2e417d061ad7568981e1dd70c8defd64ba2a6465372d7d6c87f8", func := "boscage/boscagelaw09.HelpAlone", spec := "helpAlone", unfollowed := true, recurses := true, apart := false, narrowed := true }
def HelpAloneUptoSaid : Prop := helpAloneUptoRow.holds Try.pinned (OpenSpec.upto helpAloneSpec)

/-- 'boscagelaw10.LlxRace', WHERE WHAT IT READS IS OF BULK AT MOST 1048576: true; the input reads as it did. -/
def llxRaceUptoRow : OpenClaim := { program := "ytieebiblpcciaaa", sum := "245954e0962f2e417d061ad7568981e1dd70c8defd64ba2a6465372d7d6c87f8", func := "boscage/boscagelaw10.LlxRace", spec := "llxRace", unfollowed := true, recurses := true, apart := false, narrowed := true }
def LlxRaceUptoSaid : Prop := llxRaceUptoRow.holds Try.pinned (OpenSpec.upto llxRaceSpec)

/-- 'boscagelaw10.LlxStill', WHERE WHAT IT READS IS OF BULK AT MOST 1048576: true; the input reads as it did. -/
def llxStillUptoRow : OpenClaim := { program := "ytieebiblpcciaaa", sum := "245954e0962f2e417d061ad7568981e1dd70c8defd64ba2a6465372d7d6c87f8", func := "boscage/boscagelaw10.LlxStill", spec := "llxStill", unfollowed := true, recurses := true, apart := false, narrowed := true }
def LlxStillUptoSaid : Prop := llxStillUptoRow.holds Try.pinned (OpenSpec.upto llxStillSpec)

/-- 'boscagelaw10.LlxSnaps', WHERE WHAT IT READS IS OF BULK AT MOST 1048576: true; the input reads as it did. -/
def llxSnapsUptoRow : OpenClaim := { program := "ytieebiblpcciaaa", sum := "245954e0962f2e417d061ad7568981e1dd70c8defd64ba2a6465372d7d6c87f8", func := "boscage/boscagelaw10.LlxSnaps", spec := "llxSnaps", unfollowed := true, recurses := true, apart := false, narrowed := true }
def LlxSnapsUptoSaid : Prop := llxSnapsUptoRow.holds Try.pinned (OpenSpec.upto llxSnapsSpec)

/-- 'boscagelaw11.SeekPaths', WHERE WHAT IT READS IS OF BULK AT MOST 1048576: true; the input reads as it did. -/
def seekPathsUptoRow : OpenClaim := { program := "ytieebiblpcciaaa", sum := "245954e0962f2e417d061ad7568981e1dd70c8defd64ba2a6465372d7d6c87f8", func := "boscage/boscagelaw11.SeekPaths", spec := "seekPaths", unfollowed := true, recurses := true, apart := false, narrowed := true }
def SeekPathsUptoSaid : Prop := seekPathsUptoRow.holds Try.pinned (OpenSpec.upto seekPathsSpec)

/-- 'boscagelaw11.SeekLeaf', WHERE WHAT IT READS IS OF BULK AT MOST 1048576: true; the input reads as it did. -/
def seekLeafUptoRow : OpenClaim := { program := "ytieebiblpcciaaa", sum := "245954e0962f2e417d061ad7568981e1dd70c8defd64ba2a6465372d7d6c87f8", func := "boscage/boscagelaw11.SeekLeaf", spec := "seekLeaf", unfollowed := true, recurses := true, apart := false, narrowed := true }
def SeekLeafUptoSaid : Prop := seekLeafUptoRow.holds Try.pinned (OpenSpec.upto seekLeafSpec)

/-- 'boscagelaw11.SeekFinds', WHERE WHAT IT READS IS OF BULK AT MOST 1048576: true; the input reads as it did. -/
def seekFindsUptoRow : OpenClaim := { program := "ytieebiblpcciaaa", sum := "245954e0962f2e417d061ad7568981e1dd70c8defd64ba2a6465372d7d6c87f8", func := "boscage/boscagelaw11.SeekFinds", spec := "seekFinds", unfollowed := true, recurses := true, apart := false, narrowed := true }
def SeekFindsUptoSaid : Prop := seekFindsUptoRow.holds Try.pinned (OpenSpec.upto seekFindsSpec)

/-- 'boscagelaw11.SeekTurns', WHERE WHAT IT READS IS OF BULK AT MOST 1048576: true; the input reads as it did. -/
def seekTurnsUptoRow : OpenClaim := { program := "ytieebiblpcciaaa", sum := "245954e0962f2e417d061ad7568981e1dd70c8defd64ba2a6465372d7d6c87f8", func := "boscage/boscagelaw11.SeekTurns", spec := "seekTurns", unfollowed := true, recurses := true, apart := false, narrowed := true }
def SeekTurnsUptoSaid : Prop := seekTurnsUptoRow.holds Try.pinned (OpenSpec.upto seekTurnsSpec)

end Rows
end Go.Proofs.Ytieebiblpcciaaa
