/-
  No cell of these rows narrows 'for every input' (looked for: loops, veiled, ifaces, maps, wideKeys, modest, calm, conditions, laid).
  DERIVED. THE GIVEN ROWS OF THIS SEAT. 8 by the template 'for every input the law returns true; each argument reads behind the call as it read before'; 0 by the template 'total and deterministic' (their statements: YtmhmgdpcibldlaaTotals.lean).
  GIVEN WITH THE SEED: the statements are not yours to turn. If you find one false, say at which input.
  Laid BY PROGRAM, IN A SANDBOX (cutbox-rows.mjs): the forced cells as the released guide's own fill.sh prints them over the translation c472932ff61da8d8… (all of the seat's roots in one cut). By AI agents, Wed Nov 11 2026. No macro, syntax, notation, axiom, sorry.
-/
import Derived.Test.YtmhmgdpcibldlaaChecked
import GoSem.Claim
import GoSem.ClaimJoined
import GoSem.ClaimMapViews
import Derived.JoinedTies
import Derived.KernelRfl
namespace Go.Proofs.Ytmhmgdpcibldlaa
/- THE CELL 'sum', in the pinned program and in every row, IS THE sha256 OF THE DUMP (.gsa) THAT YtmhmgdpcibldlaaProg.lean LOADS. Nothing in Lean hashes anything: it is a label: what it is worth is what the hold of that sum in a sandbox is worth. -/
noncomputable def Try.pinned : Pinned := { name := "ytmhmgdpcibldlaa", sum := "c472932ff61da8d89b4d0fc84915ebcf04ef50faf74897958b886e1813e4377a", checked := Try.checked }
namespace Rows
def none {H : Type} : Left H := { results := [], args := [] }

/-- 'boscagelaw09.HelpAlone': WHATEVER THE INPUT: true; the input reads as it did. -/
def helpAloneSpec : ChangeSpec := { name := "helpAlone", fn := fun _ => fun
  | [d1, d2, d3, d4, d5, d6] => { results := [.lit (.bool true)], args := [d1, d2, d3, d4, d5, d6] }
  | _ => none }
def helpAloneRow : OpenClaim := { program := "ytmhmgdpcibldlaa", sum := "c472932ff61da8d89b4d0fc84915ebcf04ef50faf74897958b886e1813e4377a", func := "boscage/boscagelaw09.HelpAlone", spec := "helpAlone", unfollowed := true, recurses := true, apart := false }
def HelpAloneSaid : Prop := helpAloneRow.holds Try.pinned (OpenSpec.ofChange helpAloneSpec)

/-- ITS FALSE NEIGHBOUR: 'it returns false'. Refute it at one input. -/
def helpAloneWrong : ChangeSpec := { name := "helpAlone", fn := fun _ => fun
  | [d1, d2, d3, d4, d5, d6] => { results := [.lit (.bool false)], args := [d1, d2, d3, d4, d5, d6] }
  | _ => none }
def HelpAloneWrongFalsely : Prop := helpAloneRow.holds Try.pinned (OpenSpec.ofChange helpAloneWrong)

/-- 'boscagelaw10.LlxLoads': WHATEVER THE INPUT: true; the input reads as it did. -/
def llxLoadsSpec : ChangeSpec := { name := "llxLoads", fn := fun _ => fun
  | [d1, d2, d3] => { results := [.lit (.bool true)], args := [d1, d2, d3] }
  | _ => none }
def llxLoadsRow : OpenClaim := { program := "ytmhmgdpcibldlaa", sum := "c472932ff61da8d89b4d0fc84915ebcf04ef50faf74897958b886e1813e4377a", func := "boscage/boscagelaw10.LlxLoads", spec := "llxLoads", unfollowed := true, recurses := true, apart := false }
def LlxLoadsSaid : Prop := llxLoadsRow.holds Try.pinned (OpenSpec.ofChange llxLoadsSpec)

/-- ITS FALSE NEIGHBOUR: 'it returns false'. Refute it at one input. -/
def llxLoadsWrong : ChangeSpec := { name := "llxLoads", fn := fun _ => fun
  | [d1, d2, d3] => { results := [.lit (.bool false)], args := [d1, d2, d3] }
  | _ => none }
def LlxLoadsWrongFalsely : Prop := llxLoadsRow.holds Try.pinned (OpenSpec.ofChange llxLoadsWrong)

/-- 'boscagelaw10.LlxStores': WHATEVER THE INPUT: true; the input reads as it did. -/
def llxStoresSpec : ChangeSpec := { name := "llxStores", fn := fun _ => fun
  | [d1, d2] => { results := [.lit (.bool true)], args := [d1, d2] }
  | _ => none }
def llxStoresRow : OpenClaim := { program := "ytmhmgdpcibldlaa", sum := "c472932ff61da8d89b4d0fc84915ebcf04ef50faf74897958b886e1813e4377a", func := "boscage/boscagelaw10.LlxStores", spec := "llxStores", unfollowed := true, recurses := true, apart := false }
def LlxStoresSaid : Prop := llxStoresRow.holds Try.pinned (OpenSpec.ofChange llxStoresSpec)

/-- ITS FALSE NEIGHBOUR: 'it returns false'. Refute it at one input. -/
def llxStoresWrong : ChangeSpec := { name := "llxStores", fn := fun _ => fun
  | [d1, d2] => { results := [.lit (.bool false)], args := [d1, d2] }
  | _ => none }
def LlxStoresWrongFalsely : Prop := llxStoresRow.holds Try.pinned (OpenSpec.ofChange llxStoresWrong)

/-- 'boscagelaw10.LlxStale': WHATEVER THE INPUT: true; the input reads as it did. -/
def llxStaleSpec : ChangeSpec := { name := "llxStale", fn := fun _ => fun
  | [d1, d2, d3] => { results := [.lit (.bool true)], args := [d1, d2, d3] }
  | _ => none }
def llxStaleRow : OpenClaim := { program := "ytmhmgdpcibldlaa", sum := "c472932ff61da8d89b4d0fc84915ebcf04ef50faf74897958b886e1813e4377a", func := "boscage/boscagelaw10.LlxStale", spec := "llxStale", unfollowed := true, recurses := true, apart := false }
def LlxStaleSaid : Prop := llxStaleRow.holds Try.pinned (OpenSpec.ofChange llxStaleSpec)

/-- ITS FALSE NEIGHBOUR: 'it returns false'. Refute it at one input. -/
def llxStaleWrong : ChangeSpec := { name := "llxStale", fn := fun _ => fun
  | [d1, d2, d3] => { results := [.lit (.bool false)], args := [d1, d2, d3] }
  | _ => none }
def LlxStaleWrongFalsely : Prop := llxStaleRow.holds Try.pinned (OpenSpec.ofChange llxStaleWrong)

/-- 'boscagelaw10.LlxRace': WHATEVER THE INPUT: true; the input reads as it did. -/
def llxRaceSpec : ChangeSpec := { name := "llxRace", fn := fun _ => fun
  | [d1, d2] => { results := [.lit (.bool true)], args := [d1, d2] }
  | _ => none }
def llxRaceRow : OpenClaim := { program := "ytmhmgdpcibldlaa", sum := "c472932ff61da8d89b4d0fc84915ebcf04ef50faf74897958b886e1813e4377a", func := "boscage/boscagelaw10.LlxRace", spec := "llxRace", unfollowed := true, recurses := true, apart := false }
def LlxRaceSaid : Prop := llxRaceRow.holds Try.pinned (OpenSpec.ofChange llxRaceSpec)

/-- ITS FALSE NEIGHBOUR: 'it returns false'. Refute it at one input. -/
def llxRaceWrong : ChangeSpec := { name := "llxRace", fn := fun _ => fun
  | [d1, d2] => { results := [.lit (.bool false)], args := [d1, d2] }
  | _ => none }
def LlxRaceWrongFalsely : Prop := llxRaceRow.holds Try.pinned (OpenSpec.ofChange llxRaceWrong)

/-- 'boscagelaw10.LlxStill': WHATEVER THE INPUT: true; the input reads as it did. -/
def llxStillSpec : ChangeSpec := { name := "llxStill", fn := fun _ => fun
  | [d1, d2] => { results := [.lit (.bool true)], args := [d1, d2] }
  | _ => none }
def llxStillRow : OpenClaim := { program := "ytmhmgdpcibldlaa", sum := "c472932ff61da8d89b4d0fc84915ebcf04ef50faf74897958b886e1813e4377a", func := "boscage/boscagelaw10.LlxStill", spec := "llxStill", unfollowed := true, recurses := true, apart := false }
def LlxStillSaid : Prop := llxStillRow.holds Try.pinned (OpenSpec.ofChange llxStillSpec)

/-- ITS FALSE NEIGHBOUR: 'it returns false'. Refute it at one input. -/
def llxStillWrong : ChangeSpec := { name := "llxStill", fn := fun _ => fun
  | [d1, d2] => { results := [.lit (.bool false)], args := [d1, d2] }
  | _ => none }
def LlxStillWrongFalsely : Prop := llxStillRow.holds Try.pinned (OpenSpec.ofChange llxStillWrong)

/-- 'boscagelaw10.LlxSnaps': WHATEVER THE INPUT: true; the input reads as it did. -/
def llxSnapsSpec : ChangeSpec := { name := "llxSnaps", fn := fun _ => fun
  | [d1, d2, d3] => { results := [.lit (.bool true)], args := [d1, d2, d3] }
  | _ => none }
def llxSnapsRow : OpenClaim := { program := "ytmhmgdpcibldlaa", sum := "c472932ff61da8d89b4d0fc84915ebcf04ef50faf74897958b886e1813e4377a", func := "boscage/boscagelaw10.LlxSnaps", spec := "llxSnaps", unfollowed := true, recurses := true, apart := false }
def LlxSnapsSaid : Prop := llxSnapsRow.holds Try.pinned (OpenSpec.ofChange llxSnapsSpec)

/-- ITS FALSE NEIGHBOUR: 'it returns false'. Refute it at one input. -/
def llxSnapsWrong : ChangeSpec := { name := "llxSnaps", fn := fun _ => fun
  | [d1, d2, d3] => { results := [.lit (.bool false)], args := [d1, d2, d3] }
  | _ => none }
def LlxSnapsWrongFalsely : Prop := llxSnapsRow.holds Try.pinned (OpenSpec.ofChange llxSnapsWrong)

/-- 'boscagelaw10.LlxNone': WHATEVER THE INPUT: true; the input reads as it did. -/
def llxNoneSpec : ChangeSpec := { name := "llxNone", fn := fun _ => fun
  | [d1, d2] => { results := [.lit (.bool true)], args := [d1, d2] }
  | _ => none }
def llxNoneRow : OpenClaim := { program := "ytmhmgdpcibldlaa", sum := "c472932ff61da8d89b4d0fc84915ebcf04ef50faf74897958b886e1813e4377a", func := "boscage/boscagelaw10.LlxNone", spec := "llxNone", unfollowed := true, recurses := true, apart := false }
def LlxNoneSaid : Prop := llxNoneRow.holds Try.pinned (OpenSpec.ofChange llxNoneSpec)

/-- ITS FALSE NEIGHBOUR: 'it returns false'. Refute it at one input. -/
def llxNoneWrong : ChangeSpec := { name := "llxNone", fn := fun _ => fun
  | [d1, d2] => { results := [.lit (.bool false)], args := [d1, d2] }
  | _ => none }
def LlxNoneWrongFalsely : Prop := llxNoneRow.holds Try.pinned (OpenSpec.ofChange llxNoneWrong)

/- THE SECOND FORM. 'bulk': how many values and letters a reading holds, each counted each time it is reached (what is shared counts as often as it is met; a slice's spare places count too). A statement '..UptoSaid' is the law's where the arguments, and the package variables that the reading takes, are together of bulk at most 1048576: NARROWER than '..Said'. Prove '..Said' where nothing that the law and all that it calls make is longer than what came in: it says more and counts as full. Else prove '..UptoSaid'. A law counts once. -/
mutual
def uptoBulk {H : Type} : DataW H → Nat
  | .lit (.string bytes) => bytes.length + 1
  | .lit _ => 1
  | .nil => 1
  | .ptr d => uptoBulk d + 1
  | .slice elems spare => uptoBulkAll elems + uptoBulkAll spare + 1
  | .agg parts => uptoBulkAll parts + 1
  | .iface _ d => uptoBulk d + 1
  | .map entries => uptoBulkEntries entries + 1
  | .held _ => 1
def uptoBulkAll {H : Type} : List (DataW H) → Nat
  | [] => 0
  | d :: r => uptoBulk d + uptoBulkAll r
def uptoBulkEntries {H : Type} : List (Lit × DataW H) → Nat
  | [] => 0
  | x :: r => uptoBulkEntry x + uptoBulkEntries r
def uptoBulkEntry {H : Type} : Lit × DataW H → Nat
  | (.string bytes, d) => bytes.length + uptoBulk d + 1
  | (_, d) => uptoBulk d + 1
 end
def uptoSmall : (H : Type) → List (DataW H) → Bool := fun _ ds => decide (uptoBulkAll ds ≤ 1048576)
def OpenSpec.upto (s : _root_.Go.ChangeSpec) : _root_.Go.OpenSpec := { _root_.Go.OpenSpec.ofChange s with cond := some uptoSmall }

/-- 'boscagelaw09.HelpAlone', WHERE WHAT IT READS IS OF BULK AT MOST 1048576: true; the input reads as it did. -/
def helpAloneUptoRow : OpenClaim := { program := "ytmhmgdpcibldlaa", sum := "c472932ff61da8d89b4d0fc84915ebcf04ef50faf74897958b886e1813e4377a", func := "boscage/boscagelaw09.HelpAlone", spec := "helpAlone", unfollowed := true, recurses := true, apart := false, narrowed := true }
def HelpAloneUptoSaid : Prop := helpAloneUptoRow.holds Try.pinned (OpenSpec.upto helpAloneSpec)

/-- 'boscagelaw10.LlxLoads', WHERE WHAT IT READS IS OF BULK AT MOST 1048576: true; the input reads as it did. -/
def llxLoadsUptoRow : OpenClaim := { program := "ytmhmgdpcibldlaa", sum := "c472932ff61da8d89b4d0fc84915ebcf04ef50faf74897958b886e1813e4377a", func := "boscage/boscagelaw10.LlxLoads", spec := "llxLoads", unfollowed := true, recurses := true, apart := false, narrowed := true }
def LlxLoadsUptoSaid : Prop := llxLoadsUptoRow.holds Try.pinned (OpenSpec.upto llxLoadsSpec)

/-- 'boscagelaw10.LlxStores', WHERE WHAT IT READS IS OF BULK AT MOST 1048576: true; the input reads as it did. -/
def llxStoresUptoRow : OpenClaim := { program := "ytmhmgdpcibldlaa", sum := "c472932ff61da8d89b4d0fc84915ebcf04ef50faf74897958b886e1813e4377a", func := "boscage/boscagelaw10.LlxStores", spec := "llxStores", unfollowed := true, recurses := true, apart := false, narrowed := true }
def LlxStoresUptoSaid : Prop := llxStoresUptoRow.holds Try.pinned (OpenSpec.upto llxStoresSpec)

/-- 'boscagelaw10.LlxStale', WHERE WHAT IT READS IS OF BULK AT MOST 1048576: true; the input reads as it did. -/
def llxStaleUptoRow : OpenClaim := { program := "ytmhmgdpcibldlaa", sum := "c472932ff61da8d89b4d0fc84915ebcf04ef50faf74897958b886e1813e4377a", func := "boscage/boscagelaw10.LlxStale", spec := "llxStale", unfollowed := true, recurses := true, apart := false, narrowed := true }
def LlxStaleUptoSaid : Prop := llxStaleUptoRow.holds Try.pinned (OpenSpec.upto llxStaleSpec)

/-- 'boscagelaw10.LlxRace', WHERE WHAT IT READS IS OF BULK AT MOST 1048576: true; the input reads as it did. -/
def llxRaceUptoRow : OpenClaim := { program := "ytmhmgdpcibldlaa", sum := "c472932ff61da8d89b4d0fc84915ebcf04ef50faf74897958b886e1813e4377a", func := "boscage/boscagelaw10.LlxRace", spec := "llxRace", unfollowed := true, recurses := true, apart := false, narrowed := true }
def LlxRaceUptoSaid : Prop := llxRaceUptoRow.holds Try.pinned (OpenSpec.upto llxRaceSpec)

/-- 'boscagelaw10.LlxStill', WHERE WHAT IT READS IS OF BULK AT MOST 1048576: true; the input reads as it did. -/
def llxStillUptoRow : OpenClaim := { program := "ytmhmgdpcibldlaa", sum := "c472932ff61da8d89b4d0fc84915ebcf04ef50faf74897958b886e1813e4377a", func := "boscage/boscagelaw10.LlxStill", spec := "llxStill", unfollowed := true, recurses := true, apart := false, narrowed := true }
def LlxStillUptoSaid : Prop := llxStillUptoRow.holds Try.pinned (OpenSpec.upto llxStillSpec)

/-- 'boscagelaw10.LlxSnaps', WHERE WHAT IT READS IS OF BULK AT MOST 1048576: true; the input reads as it did. -/
def llxSnapsUptoRow : OpenClaim := { program := "ytmhmgdpcibldlaa", sum := "c472932ff61da8d89b4d0fc84915ebcf04ef50faf74897958b886e1813e4377a", func := "boscage/boscagelaw10.LlxSnaps", spec := "llxSnaps", unfollowed := true, recurses := true, apart := false, narrowed := true }
def LlxSnapsUptoSaid : Prop := llxSnapsUptoRow.holds Try.pinned (OpenSpec.upto llxSnapsSpec)

/-- 'boscagelaw10.LlxNone', WHERE WHAT IT READS IS OF BULK AT MOST 1048576: true; the input reads as it did. -/
def llxNoneUptoRow : OpenClaim := { program := "ytmhmgdpcibldlaa", sum := "c472932ff61da8d89b4d0fc84915ebcf04ef50faf74897958b886e1813e4377a", func := "boscage/boscagelaw10.LlxNone", spec := "llxNone", unfollowed := true, recurses := true, apart := false, narrowed := true }
def LlxNoneUptoSaid : Prop := llxNoneUptoRow.holds Try.pinned (OpenSpec.upto llxNoneSpec)

end Rows
end Go.Proofs.Ytmhmgdpcibldlaa
