/-
  No cell of these rows narrows 'for every input' (looked for: loops, veiled, ifaces, maps, wideKeys, modest, calm, conditions, laid).
  DERIVED. THE GIVEN ROWS OF THIS SEAT. 11 by the template 'for every input the law returns true; each argument reads behind the call as it read before'; 0 by the template 'total and deterministic' (their statements: YtpbbkfpapmomhaaTotals.lean).
  GIVEN WITH THE SEED: the statements are not yours to turn. If you find one false, say at which input.
  Laid BY PROGRAM, IN A SANDBOX (cutbox-rows.mjs): the forced cells as the released guide's own fill.sh prints them over the translation 1d6beb51447f9685… (all of the seat's roots in one cut). By AI agents, Wed Nov 11 2026. No macro, syntax, notation, axiom, sorry.
-/
import Derived.Test.YtpbbkfpapmomhaaChecked
import GoSem.Claim
import GoSem.ClaimJoined
import GoSem.ClaimMapViews
import Derived.JoinedTies
import Derived.KernelRfl
namespace Go.Proofs.Ytpbbkfpapmomhaa
/- THE CELL 'sum', in the pinned program and in every row, IS THE sha256 OF THE DUMP (.gsa) THAT YtpbbkfpapmomhaaProg.lean LOADS. Nothing in Lean hashes anything: it is a label: what it is worth is what the hold of that sum in a sandbox is worth. -/
noncomputable def Try.pinned : Pinned := { name := "ytpbbkfpapmomhaa", sum := "1d6beb51447f96855b1a5ace76b3942a311378edacd35926cb7bc3a5054095b7", checked := Try.checked }
namespace Rows
def none {H : Type} : Left H := { results := [], args := [] }

/-- 'boscagelaw03.InnerWays': WHATEVER THE INPUT: true; the input reads as it did. -/
def innerWaysSpec : ChangeSpec := { name := "innerWays", fn := fun _ => fun
  | [d1, d2] => { results := [.lit (.bool true)], args := [d1, d2] }
  | _ => none }
def innerWaysRow : OpenClaim := { program := "ytpbbkfpapmomhaa", sum := "1d6beb51447f96855b1a5ace76b3942a311378edacd35926cb7bc3a5054095b7", func := "boscage/boscagelaw03.InnerWays", spec := "innerWays", unfollowed := true, recurses := true, apart := false }
def InnerWaysSaid : Prop := innerWaysRow.holds Try.pinned (OpenSpec.ofChange innerWaysSpec)

/-- ITS FALSE NEIGHBOUR: 'it returns false'. Refute it at one input. -/
def innerWaysWrong : ChangeSpec := { name := "innerWays", fn := fun _ => fun
  | [d1, d2] => { results := [.lit (.bool false)], args := [d1, d2] }
  | _ => none }
def InnerWaysWrongFalsely : Prop := innerWaysRow.holds Try.pinned (OpenSpec.ofChange innerWaysWrong)

/-- 'boscagelaw03.InnerAny': WHATEVER THE INPUT: true; the input reads as it did. -/
def innerAnySpec : ChangeSpec := { name := "innerAny", fn := fun _ => fun
  | [d1, d2] => { results := [.lit (.bool true)], args := [d1, d2] }
  | _ => none }
def innerAnyRow : OpenClaim := { program := "ytpbbkfpapmomhaa", sum := "1d6beb51447f96855b1a5ace76b3942a311378edacd35926cb7bc3a5054095b7", func := "boscage/boscagelaw03.InnerAny", spec := "innerAny", unfollowed := true, recurses := true, apart := false }
def InnerAnySaid : Prop := innerAnyRow.holds Try.pinned (OpenSpec.ofChange innerAnySpec)

/-- ITS FALSE NEIGHBOUR: 'it returns false'. Refute it at one input. -/
def innerAnyWrong : ChangeSpec := { name := "innerAny", fn := fun _ => fun
  | [d1, d2] => { results := [.lit (.bool false)], args := [d1, d2] }
  | _ => none }
def InnerAnyWrongFalsely : Prop := innerAnyRow.holds Try.pinned (OpenSpec.ofChange innerAnyWrong)

/-- 'boscagelaw03.InnerWith': WHATEVER THE INPUT: true; the input reads as it did. -/
def innerWithSpec : ChangeSpec := { name := "innerWith", fn := fun _ => fun
  | [d1, d2, d3] => { results := [.lit (.bool true)], args := [d1, d2, d3] }
  | _ => none }
def innerWithRow : OpenClaim := { program := "ytpbbkfpapmomhaa", sum := "1d6beb51447f96855b1a5ace76b3942a311378edacd35926cb7bc3a5054095b7", func := "boscage/boscagelaw03.InnerWith", spec := "innerWith", unfollowed := true, recurses := true, apart := false }
def InnerWithSaid : Prop := innerWithRow.holds Try.pinned (OpenSpec.ofChange innerWithSpec)

/-- ITS FALSE NEIGHBOUR: 'it returns false'. Refute it at one input. -/
def innerWithWrong : ChangeSpec := { name := "innerWith", fn := fun _ => fun
  | [d1, d2, d3] => { results := [.lit (.bool false)], args := [d1, d2, d3] }
  | _ => none }
def InnerWithWrongFalsely : Prop := innerWithRow.holds Try.pinned (OpenSpec.ofChange innerWithWrong)

/-- 'boscagelaw03.InnerAbsorbs': WHATEVER THE INPUT: true; the input reads as it did. -/
def innerAbsorbsSpec : ChangeSpec := { name := "innerAbsorbs", fn := fun _ => fun
  | [d1, d2, d3] => { results := [.lit (.bool true)], args := [d1, d2, d3] }
  | _ => none }
def innerAbsorbsRow : OpenClaim := { program := "ytpbbkfpapmomhaa", sum := "1d6beb51447f96855b1a5ace76b3942a311378edacd35926cb7bc3a5054095b7", func := "boscage/boscagelaw03.InnerAbsorbs", spec := "innerAbsorbs", unfollowed := true, recurses := true, apart := false }
def InnerAbsorbsSaid : Prop := innerAbsorbsRow.holds Try.pinned (OpenSpec.ofChange innerAbsorbsSpec)

/-- ITS FALSE NEIGHBOUR: 'it returns false'. Refute it at one input. -/
def innerAbsorbsWrong : ChangeSpec := { name := "innerAbsorbs", fn := fun _ => fun
  | [d1, d2, d3] => { results := [.lit (.bool false)], args := [d1, d2, d3] }
  | _ => none }
def InnerAbsorbsWrongFalsely : Prop := innerAbsorbsRow.holds Try.pinned (OpenSpec.ofChange innerAbsorbsWrong)

/-- 'boscagelaw03.InnerHalves': WHATEVER THE INPUT: true; the input reads as it did. -/
def innerHalvesSpec : ChangeSpec := { name := "innerHalves", fn := fun _ => fun
  | [d] => { results := [.lit (.bool true)], args := [d] }
  | _ => none }
def innerHalvesRow : OpenClaim := { program := "ytpbbkfpapmomhaa", sum := "1d6beb51447f96855b1a5ace76b3942a311378edacd35926cb7bc3a5054095b7", func := "boscage/boscagelaw03.InnerHalves", spec := "innerHalves", unfollowed := true, recurses := true, apart := false }
def InnerHalvesSaid : Prop := innerHalvesRow.holds Try.pinned (OpenSpec.ofChange innerHalvesSpec)

/-- ITS FALSE NEIGHBOUR: 'it returns false'. Refute it at one input. -/
def innerHalvesWrong : ChangeSpec := { name := "innerHalves", fn := fun _ => fun
  | [d] => { results := [.lit (.bool false)], args := [d] }
  | _ => none }
def InnerHalvesWrongFalsely : Prop := innerHalvesRow.holds Try.pinned (OpenSpec.ofChange innerHalvesWrong)

/-- 'boscagelaw03.InnerJoins': WHATEVER THE INPUT: true; the input reads as it did. -/
def innerJoinsSpec : ChangeSpec := { name := "innerJoins", fn := fun _ => fun
  | [d1, d2, d3] => { results := [.lit (.bool true)], args := [d1, d2, d3] }
  | _ => none }
def innerJoinsRow : OpenClaim := { program := "ytpbbkfpapmomhaa", sum := "1d6beb51447f96855b1a5ace76b3942a311378edacd35926cb7bc3a5054095b7", func := "boscage/boscagelaw03.InnerJoins", spec := "innerJoins", unfollowed := true, recurses := true, apart := false }
def InnerJoinsSaid : Prop := innerJoinsRow.holds Try.pinned (OpenSpec.ofChange innerJoinsSpec)

/-- ITS FALSE NEIGHBOUR: 'it returns false'. Refute it at one input. -/
def innerJoinsWrong : ChangeSpec := { name := "innerJoins", fn := fun _ => fun
  | [d1, d2, d3] => { results := [.lit (.bool false)], args := [d1, d2, d3] }
  | _ => none }
def InnerJoinsWrongFalsely : Prop := innerJoinsRow.holds Try.pinned (OpenSpec.ofChange innerJoinsWrong)

/-- 'boscagelaw03.InnerMerges': WHATEVER THE INPUT: true; the input reads as it did. -/
def innerMergesSpec : ChangeSpec := { name := "innerMerges", fn := fun _ => fun
  | [d1, d2, d3] => { results := [.lit (.bool true)], args := [d1, d2, d3] }
  | _ => none }
def innerMergesRow : OpenClaim := { program := "ytpbbkfpapmomhaa", sum := "1d6beb51447f96855b1a5ace76b3942a311378edacd35926cb7bc3a5054095b7", func := "boscage/boscagelaw03.InnerMerges", spec := "innerMerges", unfollowed := true, recurses := true, apart := false }
def InnerMergesSaid : Prop := innerMergesRow.holds Try.pinned (OpenSpec.ofChange innerMergesSpec)

/-- ITS FALSE NEIGHBOUR: 'it returns false'. Refute it at one input. -/
def innerMergesWrong : ChangeSpec := { name := "innerMerges", fn := fun _ => fun
  | [d1, d2, d3] => { results := [.lit (.bool false)], args := [d1, d2, d3] }
  | _ => none }
def InnerMergesWrongFalsely : Prop := innerMergesRow.holds Try.pinned (OpenSpec.ofChange innerMergesWrong)

/-- 'boscagelaw03.InnerTurns': WHATEVER THE INPUT: true; the input reads as it did. -/
def innerTurnsSpec : ChangeSpec := { name := "innerTurns", fn := fun _ => fun
  | [d1, d2, d3, d4, d5] => { results := [.lit (.bool true)], args := [d1, d2, d3, d4, d5] }
  | _ => none }
def innerTurnsRow : OpenClaim := { program := "ytpbbkfpapmomhaa", sum := "1d6beb51447f96855b1a5ace76b3942a311378edacd35926cb7bc3a5054095b7", func := "boscage/boscagelaw03.InnerTurns", spec := "innerTurns", unfollowed := true, recurses := true, apart := false }
def InnerTurnsSaid : Prop := innerTurnsRow.holds Try.pinned (OpenSpec.ofChange innerTurnsSpec)

/-- ITS FALSE NEIGHBOUR: 'it returns false'. Refute it at one input. -/
def innerTurnsWrong : ChangeSpec := { name := "innerTurns", fn := fun _ => fun
  | [d1, d2, d3, d4, d5] => { results := [.lit (.bool false)], args := [d1, d2, d3, d4, d5] }
  | _ => none }
def InnerTurnsWrongFalsely : Prop := innerTurnsRow.holds Try.pinned (OpenSpec.ofChange innerTurnsWrong)

/-- 'boscagelaw03.InnerRoutes': WHATEVER THE INPUT: true; the input reads as it did. -/
def innerRoutesSpec : ChangeSpec := { name := "innerRoutes", fn := fun _ => fun
  | [d1, d2, d3, d4] => { results := [.lit (.bool true)], args := [d1, d2, d3, d4] }
  | _ => none }
def innerRoutesRow : OpenClaim := { program := "ytpbbkfpapmomhaa", sum := "1d6beb51447f96855b1a5ace76b3942a311378edacd35926cb7bc3a5054095b7", func := "boscage/boscagelaw03.InnerRoutes", spec := "innerRoutes", unfollowed := true, recurses := true, apart := false }
def InnerRoutesSaid : Prop := innerRoutesRow.holds Try.pinned (OpenSpec.ofChange innerRoutesSpec)

/-- ITS FALSE NEIGHBOUR: 'it returns false'. Refute it at one input. -/
def innerRoutesWrong : ChangeSpec := { name := "innerRoutes", fn := fun _ => fun
  | [d1, d2, d3, d4] => { results := [.lit (.bool false)], args := [d1, d2, d3, d4] }
  | _ => none }
def InnerRoutesWrongFalsely : Prop := innerRoutesRow.holds Try.pinned (OpenSpec.ofChange innerRoutesWrong)

/-- 'boscagelaw03.InnerParts': WHATEVER THE INPUT: true; the input reads as it did. -/
def innerPartsSpec : ChangeSpec := { name := "innerParts", fn := fun _ => fun
  | [d1, d2] => { results := [.lit (.bool true)], args := [d1, d2] }
  | _ => none }
def innerPartsRow : OpenClaim := { program := "ytpbbkfpapmomhaa", sum := "1d6beb51447f96855b1a5ace76b3942a311378edacd35926cb7bc3a5054095b7", func := "boscage/boscagelaw03.InnerParts", spec := "innerParts", unfollowed := true, recurses := true, apart := false }
def InnerPartsSaid : Prop := innerPartsRow.holds Try.pinned (OpenSpec.ofChange innerPartsSpec)

/-- ITS FALSE NEIGHBOUR: 'it returns false'. Refute it at one input. -/
def innerPartsWrong : ChangeSpec := { name := "innerParts", fn := fun _ => fun
  | [d1, d2] => { results := [.lit (.bool false)], args := [d1, d2] }
  | _ => none }
def InnerPartsWrongFalsely : Prop := innerPartsRow.holds Try.pinned (OpenSpec.ofChange innerPartsWrong)

/-- 'boscagelaw03.InnerKeeps': WHATEVER THE INPUT: true; the input reads as it did. -/
def innerKeepsSpec : ChangeSpec := { name := "innerKeeps", fn := fun _ => fun
  | [d1, d2, d3] => { results := [.lit (.bool true)], args := [d1, d2, d3] }
  | _ => none }
def innerKeepsRow : OpenClaim := { program := "ytpbbkfpapmomhaa", sum := "1d6beb51447f96855b1a5ace76b3942a311378edacd35926cb7bc3a5054095b7", func := "boscage/boscagelaw03.InnerKeeps", spec := "innerKeeps", unfollowed := true, recurses := true, apart := false }
def InnerKeepsSaid : Prop := innerKeepsRow.holds Try.pinned (OpenSpec.ofChange innerKeepsSpec)

/-- ITS FALSE NEIGHBOUR: 'it returns false'. Refute it at one input. -/
def innerKeepsWrong : ChangeSpec := { name := "innerKeeps", fn := fun _ => fun
  | [d1, d2, d3] => { results := [.lit (.bool false)], args := [d1, d2, d3] }
  | _ => none }
def InnerKeepsWrongFalsely : Prop := innerKeepsRow.holds Try.pinned (OpenSpec.ofChange innerKeepsWrong)

/- THE SECOND FORM. 'bulk': how many values and letters a reading holds, each counted each time it is reached (what is shared counts as often as it is met; a slice's spare places count too). A statement '..UptoSaid' is the law's where the arguments, and the package variables that the reading takes, are together of bulk at most 1048576: NARROWER than '..Said'. Prove '..Said' where nothing that the law and all that it calls make is longer than what came in: it says more and counts as full. Else prove '..UptoSaid'. A law counts once. -/
mutual
def uptoBulk {H : Type} : DataW H → Nat
  | .lit (.string bytes) => bytes.length + 1
  | .lit _ => 1
  | .nil => 1
  | .ptr d => uptoBulk d + 1
  | .slice elems spare => uptoBulkAll elems + uptoBulkAll spare + 1
  | .agg parts => uptoBulkAll parts + 1
  | .iface _ d => uptoBulk d + 1
  | .map entries => uptoBulkEntries entries + 1
  | .held _ => 1
def uptoBulkAll {H : Type} : List (DataW H) → Nat
  | [] => 0
  | d :: r => uptoBulk d + uptoBulkAll r
def uptoBulkEntries {H : Type} : List (Lit × DataW H) → Nat
  | [] => 0
  | x :: r => uptoBulkEntry x + uptoBulkEntries r
def uptoBulkEntry {H : Type} : Lit × DataW H → Nat
  | (.string bytes, d) => bytes.length + uptoBulk d + 1
  | (_, d) => uptoBulk d + 1
 end
def uptoSmall : (H : Type) → List (DataW H) → Bool := fun _ ds => decide (uptoBulkAll ds ≤ 1048576)
def OpenSpec.upto (s : _root_.Go.ChangeSpec) : _root_.Go.OpenSpec := { _root_.Go.OpenSpec.ofChange s with cond := some uptoSmall }

/-- 'boscagelaw03.InnerWays', WHERE WHAT IT READS IS OF BULK AT MOST 1048576: true; the input reads as it did. -/
def innerWaysUptoRow : OpenClaim := { program := "ytpbbkfpapmomhaa", sum := "1d6beb51447f96855b1a5ace76b3942a311378edacd35926cb7bc3a5054095b7", func := "boscage/boscagelaw03.InnerWays", spec := "innerWays", unfollowed := true, recurses := true, apart := false, narrowed := true }
def InnerWaysUptoSaid : Prop := innerWaysUptoRow.holds Try.pinned (OpenSpec.upto innerWaysSpec)

/-- 'boscagelaw03.InnerAny', WHERE WHAT IT READS IS OF BULK AT MOST 1048576: true; the input reads as it did. -/
def innerAnyUptoRow : OpenClaim := { program := "ytpbbkfpapmomhaa", sum := "1d6beb51447f96855b1a5ace76b3942a311378edacd35926cb7bc3a5054095b7", func := "boscage/boscagelaw03.InnerAny", spec := "innerAny", unfollowed := true, recurses := true, apart := false, narrowed := true }
def InnerAnyUptoSaid : Prop := innerAnyUptoRow.holds Try.pinned (OpenSpec.upto innerAnySpec)

/-- 'boscagelaw03.InnerWith', WHERE WHAT IT READS IS OF BULK AT MOST 1048576: true; the input reads as it did. -/
def innerWithUptoRow : OpenClaim := { program := "ytpbbkfpapmomhaa", sum := "1d6beb51447f96855b1a5ace76b3942a311378edacd35926cb7bc3a5054095b7", func := "boscage/boscagelaw03.InnerWith", spec := "innerWith", unfollowed := true, recurses := true, apart := false, narrowed := true }
def InnerWithUptoSaid : Prop := innerWithUptoRow.holds Try.pinned (OpenSpec.upto innerWithSpec)

/-- 'boscagelaw03.InnerAbsorbs', WHERE WHAT IT READS IS OF BULK AT MOST 1048576: true; the input reads as it did. -/
def innerAbsorbsUptoRow : OpenClaim := { program := "ytpbbkfpapmomhaa", sum := "1d6beb51447f96855b1a5ace76b3942a311378edacd35926cb7bc3a5054095b7", func := "boscage/boscagelaw03.InnerAbsorbs", spec := "innerAbsorbs", unfollowed := true, recurses := true, apart := false, narrowed := true }
def InnerAbsorbsUptoSaid : Prop := innerAbsorbsUptoRow.holds Try.pinned (OpenSpec.upto innerAbsorbsSpec)

/-- 'boscagelaw03.InnerHalves', WHERE WHAT IT READS IS OF BULK AT MOST 1048576: true; the input reads as it did. -/
def innerHalvesUptoRow : OpenClaim := { program := "ytpbbkfpapmomhaa", sum := "1d6beb51447f96855b1a5ace76b3942a311378edacd35926cb7bc3a5054095b7", func := "boscage/boscagelaw03.InnerHalves", spec := "innerHalves", unfollowed := true, recurses := true, apart := false, narrowed := true }
def InnerHalvesUptoSaid : Prop := innerHalvesUptoRow.holds Try.pinned (OpenSpec.upto innerHalvesSpec)

/-- 'boscagelaw03.InnerJoins', WHERE WHAT IT READS IS OF BULK AT MOST 1048576: true; the input reads as it did. -/
def innerJoinsUptoRow : OpenClaim := { program := "ytpbbkfpapmomhaa", sum := "1d6beb51447f96855b1a5ace76b3942a311378edacd35926cb7bc3a5054095b7", func := "boscage/boscagelaw03.InnerJoins", spec := "innerJoins", unfollowed := true, recurses := true, apart := false, narrowed := true }
def InnerJoinsUptoSaid : Prop := innerJoinsUptoRow.holds Try.pinned (OpenSpec.upto innerJoinsSpec)

/-- 'boscagelaw03.InnerMerges', WHERE WHAT IT READS IS OF BULK AT MOST 1048576: true; the input reads as it did. -/
def innerMergesUptoRow : OpenClaim := { program := "ytpbbkfpapmomhaa", sum := "1d6beb51447f96855b1a5ace76b3942a311378edacd35926cb7bc3a5054095b7", func := "boscage/boscagelaw03.InnerMerges", spec := "innerMerges", unfollowed := true, recurses := true, apart := false, narrowed := true }
def InnerMergesUptoSaid : Prop := innerMergesUptoRow.holds Try.pinned (OpenSpec.upto innerMergesSpec)

/-- 'boscagelaw03.InnerTurns', WHERE WHAT IT READS IS OF BULK AT MOST 1048576: true; the input reads as it did. -/
def innerTurnsUptoRow : OpenClaim := { program := "ytpbbkfpapmomhaa", sum := "1d6beb51447f96855b1a5ace76b3942a311378edacd35926cb7bc3a5054095b7", func := "boscage/boscagelaw03.InnerTurns", spec := "innerTurns", unfollowed := true, recurses := true, apart := false, narrowed := true }
def InnerTurnsUptoSaid : Prop := innerTurnsUptoRow.holds Try.pinned (OpenSpec.upto innerTurnsSpec)

/-- 'boscagelaw03.InnerRoutes', WHERE WHAT IT READS IS OF BULK AT MOST 1048576: true; the input reads as it did. -/
def innerRoutesUptoRow : OpenClaim := { program := "ytpbbkfpapmomhaa", sum := "1d6beb51447f96855b1a5ace76b3942a311378edacd35926cb7bc3a5054095b7", func := "boscage/boscagelaw03.InnerRoutes", spec := "innerRoutes", unfollowed := true, recurses := true, apart := false, narrowed := true }
def InnerRoutesUptoSaid : Prop := innerRoutesUptoRow.holds Try.pinned (OpenSpec.upto innerRoutesSpec)

/-- 'boscagelaw03.InnerParts', WHERE WHAT IT READS IS OF BULK AT MOST 1048576: true; the input reads as it did. -/
def innerPartsUptoRow : OpenClaim := { program := "ytpbbkfpapmomhaa", sum := "1d6beb51447f96855b1a5ace76b3942a311378edacd35926cb7bc3a5054095b7", func := "boscage/boscagelaw03.InnerParts", spec := "innerParts", unfollowed := true, recurses := true, apart := false, narrowed := true }
def InnerPartsUptoSaid : Prop := innerPartsUptoRow.holds Try.pinned (OpenSpec.upto innerPartsSpec)

/-- 'boscagelaw03.InnerKeeps', WHERE WHAT IT READS IS OF BULK AT MOST 1048576: true; the input reads as it did. -/
def innerKeepsUptoRow : OpenClaim := { program := "ytpbbkfpapmomhaa", sum := "1d6beb51447f96855b1a5ace76b3942a311378edacd35926cb7bc3a5054095b7", func := "boscage/boscagelaw03.InnerKeeps", spec := "innerKeeps", unfollowed := true, recurses := true, apart := false, narrowed := true }
def InnerKeepsUptoSaid : Prop := innerKeepsUptoRow.holds Try.pinned (OpenSpec.upto innerKeepsSpec)

end Rows
end Go.Proofs.Ytpbbkfpapmomhaa
