/-
  No cell of these rows narrows 'for every input' (looked for: loops, veiled, ifaces, maps, wideKeys, modest, calm, conditions, laid).
  DERIVED. THE GIVEN ROWS OF THIS SEAT. 10 by the template 'for every input the law returns true; each argument reads behind the call as it read before'; 0 by the template 'total and deterministic' (their statements: YtfpnchnijfhjhaaTotals.lean).
  GIVEN WITH THE SEED: the statements are not yours to turn. If you find one false, say at which input.
  Laid BY PROGRAM, IN A SANDBOX (cutbox-rows.mjs): the forced cells as the released guide's own fill.sh prints them over the translation 4b802cee33a000d2… (all of the seat's roots in one cut). By AI agents, Wed Nov 11 2026. No macro, syntax, notation, axiom, sorry.
-/
import Derived.Test.YtfpnchnijfhjhaaChecked
import GoSem.Claim
import GoSem.ClaimJoined
import GoSem.ClaimMapViews
import Derived.JoinedTies
import Derived.KernelRfl
namespace Go.Proofs.Ytfpnchnijfhjhaa
/- THE CELL 'sum', in the pinned program and in every row, IS THE sha256 OF THE DUMP (.gsa) THAT YtfpnchnijfhjhaaProg.lean LOADS. Nothing in Lean hashes anything: it is a label: what it is worth is what the hold of that sum in a sandbox is worth. -/
noncomputable def Try.pinned : Pinned := { name := "ytfpnchnijfhjhaa", sum := "4b802cee33a000d2268b88c7c897b992df8466ed02321bc93ba5c2cf38ebfc10", checked := Try.checked }
namespace Rows
def none {H : Type} : Left H := { results := [], args := [] }

/-- 'boscagelaw02.LeafGets': WHATEVER THE INPUT: true; the input reads as it did. -/
def leafGetsSpec : ChangeSpec := { name := "leafGets", fn := fun _ => fun
  | [d1, d2] => { results := [.lit (.bool true)], args := [d1, d2] }
  | _ => none }
def leafGetsRow : OpenClaim := { program := "ytfpnchnijfhjhaa", sum := "4b802cee33a000d2268b88c7c897b992df8466ed02321bc93ba5c2cf38ebfc10", func := "boscage/boscagelaw02.LeafGets", spec := "leafGets", unfollowed := true, recurses := true, apart := false }
def LeafGetsSaid : Prop := leafGetsRow.holds Try.pinned (OpenSpec.ofChange leafGetsSpec)

/-- ITS FALSE NEIGHBOUR: 'it returns false'. Refute it at one input. -/
def leafGetsWrong : ChangeSpec := { name := "leafGets", fn := fun _ => fun
  | [d1, d2] => { results := [.lit (.bool false)], args := [d1, d2] }
  | _ => none }
def LeafGetsWrongFalsely : Prop := leafGetsRow.holds Try.pinned (OpenSpec.ofChange leafGetsWrong)

/-- 'boscagelaw02.LeafPuts': WHATEVER THE INPUT: true; the input reads as it did. -/
def leafPutsSpec : ChangeSpec := { name := "leafPuts", fn := fun _ => fun
  | [d1, d2, d3] => { results := [.lit (.bool true)], args := [d1, d2, d3] }
  | _ => none }
def leafPutsRow : OpenClaim := { program := "ytfpnchnijfhjhaa", sum := "4b802cee33a000d2268b88c7c897b992df8466ed02321bc93ba5c2cf38ebfc10", func := "boscage/boscagelaw02.LeafPuts", spec := "leafPuts", unfollowed := true, recurses := true, apart := false }
def LeafPutsSaid : Prop := leafPutsRow.holds Try.pinned (OpenSpec.ofChange leafPutsSpec)

/-- ITS FALSE NEIGHBOUR: 'it returns false'. Refute it at one input. -/
def leafPutsWrong : ChangeSpec := { name := "leafPuts", fn := fun _ => fun
  | [d1, d2, d3] => { results := [.lit (.bool false)], args := [d1, d2, d3] }
  | _ => none }
def LeafPutsWrongFalsely : Prop := leafPutsRow.holds Try.pinned (OpenSpec.ofChange leafPutsWrong)

/-- 'boscagelaw02.LeafCuts': WHATEVER THE INPUT: true; the input reads as it did. -/
def leafCutsSpec : ChangeSpec := { name := "leafCuts", fn := fun _ => fun
  | [d1, d2] => { results := [.lit (.bool true)], args := [d1, d2] }
  | _ => none }
def leafCutsRow : OpenClaim := { program := "ytfpnchnijfhjhaa", sum := "4b802cee33a000d2268b88c7c897b992df8466ed02321bc93ba5c2cf38ebfc10", func := "boscage/boscagelaw02.LeafCuts", spec := "leafCuts", unfollowed := true, recurses := true, apart := false }
def LeafCutsSaid : Prop := leafCutsRow.holds Try.pinned (OpenSpec.ofChange leafCutsSpec)

/-- ITS FALSE NEIGHBOUR: 'it returns false'. Refute it at one input. -/
def leafCutsWrong : ChangeSpec := { name := "leafCuts", fn := fun _ => fun
  | [d1, d2] => { results := [.lit (.bool false)], args := [d1, d2] }
  | _ => none }
def LeafCutsWrongFalsely : Prop := leafCutsRow.holds Try.pinned (OpenSpec.ofChange leafCutsWrong)

/-- 'boscagelaw02.LeafHalves': WHATEVER THE INPUT: true; the input reads as it did. -/
def leafHalvesSpec : ChangeSpec := { name := "leafHalves", fn := fun _ => fun
  | [d] => { results := [.lit (.bool true)], args := [d] }
  | _ => none }
def leafHalvesRow : OpenClaim := { program := "ytfpnchnijfhjhaa", sum := "4b802cee33a000d2268b88c7c897b992df8466ed02321bc93ba5c2cf38ebfc10", func := "boscage/boscagelaw02.LeafHalves", spec := "leafHalves", unfollowed := true, recurses := true, apart := false }
def LeafHalvesSaid : Prop := leafHalvesRow.holds Try.pinned (OpenSpec.ofChange leafHalvesSpec)

/-- ITS FALSE NEIGHBOUR: 'it returns false'. Refute it at one input. -/
def leafHalvesWrong : ChangeSpec := { name := "leafHalves", fn := fun _ => fun
  | [d] => { results := [.lit (.bool false)], args := [d] }
  | _ => none }
def LeafHalvesWrongFalsely : Prop := leafHalvesRow.holds Try.pinned (OpenSpec.ofChange leafHalvesWrong)

/-- 'boscagelaw02.LeafJoins': WHATEVER THE INPUT: true; the input reads as it did. -/
def leafJoinsSpec : ChangeSpec := { name := "leafJoins", fn := fun _ => fun
  | [d1, d2] => { results := [.lit (.bool true)], args := [d1, d2] }
  | _ => none }
def leafJoinsRow : OpenClaim := { program := "ytfpnchnijfhjhaa", sum := "4b802cee33a000d2268b88c7c897b992df8466ed02321bc93ba5c2cf38ebfc10", func := "boscage/boscagelaw02.LeafJoins", spec := "leafJoins", unfollowed := true, recurses := true, apart := false }
def LeafJoinsSaid : Prop := leafJoinsRow.holds Try.pinned (OpenSpec.ofChange leafJoinsSpec)

/-- ITS FALSE NEIGHBOUR: 'it returns false'. Refute it at one input. -/
def leafJoinsWrong : ChangeSpec := { name := "leafJoins", fn := fun _ => fun
  | [d1, d2] => { results := [.lit (.bool false)], args := [d1, d2] }
  | _ => none }
def LeafJoinsWrongFalsely : Prop := leafJoinsRow.holds Try.pinned (OpenSpec.ofChange leafJoinsWrong)

/-- 'boscagelaw02.LeafRises': WHATEVER THE INPUT: true; the input reads as it did. -/
def leafRisesSpec : ChangeSpec := { name := "leafRises", fn := fun _ => fun
  | [d] => { results := [.lit (.bool true)], args := [d] }
  | _ => none }
def leafRisesRow : OpenClaim := { program := "ytfpnchnijfhjhaa", sum := "4b802cee33a000d2268b88c7c897b992df8466ed02321bc93ba5c2cf38ebfc10", func := "boscage/boscagelaw02.LeafRises", spec := "leafRises", unfollowed := true, recurses := true, apart := false }
def LeafRisesSaid : Prop := leafRisesRow.holds Try.pinned (OpenSpec.ofChange leafRisesSpec)

/-- ITS FALSE NEIGHBOUR: 'it returns false'. Refute it at one input. -/
def leafRisesWrong : ChangeSpec := { name := "leafRises", fn := fun _ => fun
  | [d] => { results := [.lit (.bool false)], args := [d] }
  | _ => none }
def LeafRisesWrongFalsely : Prop := leafRisesRow.holds Try.pinned (OpenSpec.ofChange leafRisesWrong)

/-- 'boscagelaw02.LeafBetween': WHATEVER THE INPUT: true; the input reads as it did. -/
def leafBetweenSpec : ChangeSpec := { name := "leafBetween", fn := fun _ => fun
  | [d1, d2, d3] => { results := [.lit (.bool true)], args := [d1, d2, d3] }
  | _ => none }
def leafBetweenRow : OpenClaim := { program := "ytfpnchnijfhjhaa", sum := "4b802cee33a000d2268b88c7c897b992df8466ed02321bc93ba5c2cf38ebfc10", func := "boscage/boscagelaw02.LeafBetween", spec := "leafBetween", unfollowed := true, recurses := true, apart := false }
def LeafBetweenSaid : Prop := leafBetweenRow.holds Try.pinned (OpenSpec.ofChange leafBetweenSpec)

/-- ITS FALSE NEIGHBOUR: 'it returns false'. Refute it at one input. -/
def leafBetweenWrong : ChangeSpec := { name := "leafBetween", fn := fun _ => fun
  | [d1, d2, d3] => { results := [.lit (.bool false)], args := [d1, d2, d3] }
  | _ => none }
def LeafBetweenWrongFalsely : Prop := leafBetweenRow.holds Try.pinned (OpenSpec.ofChange leafBetweenWrong)

/-- 'boscagelaw02.LeafChains': WHATEVER THE INPUT: true; the input reads as it did. -/
def leafChainsSpec : ChangeSpec := { name := "leafChains", fn := fun _ => fun
  | [d1, d2] => { results := [.lit (.bool true)], args := [d1, d2] }
  | _ => none }
def leafChainsRow : OpenClaim := { program := "ytfpnchnijfhjhaa", sum := "4b802cee33a000d2268b88c7c897b992df8466ed02321bc93ba5c2cf38ebfc10", func := "boscage/boscagelaw02.LeafChains", spec := "leafChains", unfollowed := true, recurses := true, apart := false }
def LeafChainsSaid : Prop := leafChainsRow.holds Try.pinned (OpenSpec.ofChange leafChainsSpec)

/-- ITS FALSE NEIGHBOUR: 'it returns false'. Refute it at one input. -/
def leafChainsWrong : ChangeSpec := { name := "leafChains", fn := fun _ => fun
  | [d1, d2] => { results := [.lit (.bool false)], args := [d1, d2] }
  | _ => none }
def LeafChainsWrongFalsely : Prop := leafChainsRow.holds Try.pinned (OpenSpec.ofChange leafChainsWrong)

/-- 'boscagelaw02.LeafUndoes': WHATEVER THE INPUT: true; the input reads as it did. -/
def leafUndoesSpec : ChangeSpec := { name := "leafUndoes", fn := fun _ => fun
  | [d1, d2, d3] => { results := [.lit (.bool true)], args := [d1, d2, d3] }
  | _ => none }
def leafUndoesRow : OpenClaim := { program := "ytfpnchnijfhjhaa", sum := "4b802cee33a000d2268b88c7c897b992df8466ed02321bc93ba5c2cf38ebfc10", func := "boscage/boscagelaw02.LeafUndoes", spec := "leafUndoes", unfollowed := true, recurses := true, apart := false }
def LeafUndoesSaid : Prop := leafUndoesRow.holds Try.pinned (OpenSpec.ofChange leafUndoesSpec)

/-- ITS FALSE NEIGHBOUR: 'it returns false'. Refute it at one input. -/
def leafUndoesWrong : ChangeSpec := { name := "leafUndoes", fn := fun _ => fun
  | [d1, d2, d3] => { results := [.lit (.bool false)], args := [d1, d2, d3] }
  | _ => none }
def LeafUndoesWrongFalsely : Prop := leafUndoesRow.holds Try.pinned (OpenSpec.ofChange leafUndoesWrong)

/-- 'boscagelaw02.LeafKeeps': WHATEVER THE INPUT: true; the input reads as it did. -/
def leafKeepsSpec : ChangeSpec := { name := "leafKeeps", fn := fun _ => fun
  | [d1, d2, d3] => { results := [.lit (.bool true)], args := [d1, d2, d3] }
  | _ => none }
def leafKeepsRow : OpenClaim := { program := "ytfpnchnijfhjhaa", sum := "4b802cee33a000d2268b88c7c897b992df8466ed02321bc93ba5c2cf38ebfc10", func := "boscage/boscagelaw02.LeafKeeps", spec := "leafKeeps", unfollowed := true, recurses := true, apart := false }
def LeafKeepsSaid : Prop := leafKeepsRow.holds Try.pinned (OpenSpec.ofChange leafKeepsSpec)

/-- ITS FALSE NEIGHBOUR: 'it returns false'. Refute it at one input. -/
def leafKeepsWrong : ChangeSpec := { name := "leafKeeps", fn := fun _ => fun
  | [d1, d2, d3] => { results := [.lit (.bool false)], args := [d1, d2, d3] }
  | _ => none }
def LeafKeepsWrongFalsely : Prop := leafKeepsRow.holds Try.pinned (OpenSpec.ofChange leafKeepsWrong)

/- THE SECOND FORM. 'bulk': how many values and letters a reading holds, each counted each time it is reached (what is shared counts as often as it is met; a slice's spare places count too). A statement '..UptoSaid' is the law's where the arguments, and the package variables that the reading takes, are together of bulk at most 1048576: NARROWER than '..Said'. Prove '..Said' where nothing that the law and all that it calls make is longer than what came in: it says more and counts as full. Else prove '..UptoSaid'. A law counts once. -/
mutual
def uptoBulk {H : Type} : DataW H → Nat
  | .lit (.string bytes) => bytes.length + 1
  | .lit _ => 1
  | .nil => 1
  | .ptr d => uptoBulk d + 1
  | .slice elems spare => uptoBulkAll elems + uptoBulkAll spare + 1
  | .agg parts => uptoBulkAll parts + 1
  | .iface _ d => uptoBulk d + 1
  | .map entries => uptoBulkEntries entries + 1
  | .held _ => 1
def uptoBulkAll {H : Type} : List (DataW H) → Nat
  | [] => 0
  | d :: r => uptoBulk d + uptoBulkAll r
def uptoBulkEntries {H : Type} : List (Lit × DataW H) → Nat
  | [] => 0
  | x :: r => uptoBulkEntry x + uptoBulkEntries r
def uptoBulkEntry {H : Type} : Lit × DataW H → Nat
  | (.string bytes, d) => bytes.length + uptoBulk d + 1
  | (_, d) => uptoBulk d + 1
 end
def uptoSmall : (H : Type) → List (DataW H) → Bool := fun _ ds => decide (uptoBulkAll ds ≤ 1048576)
def OpenSpec.upto (s : _root_.Go.ChangeSpec) : _root_.Go.OpenSpec := { _root_.Go.OpenSpec.ofChange s with cond := some uptoSmall }

/-- 'boscagelaw02.LeafGets', WHERE WHAT IT READS IS OF BULK AT MOST 1048576: true; the input reads as it did. -/
def leafGetsUptoRow : OpenClaim := { program := "ytfpnchnijfhjhaa", sum := "4b802cee33a000d2268b88c7c897b992df8466ed02321bc93ba5c2cf38ebfc10", func := "boscage/boscagelaw02.LeafGets", spec := "leafGets", unfollowed := true, recurses := true, apart := false, narrowed := true }
def LeafGetsUptoSaid : Prop := leafGetsUptoRow.holds Try.pinned (OpenSpec.upto leafGetsSpec)

/-- 'boscagelaw02.LeafPuts', WHERE WHAT IT READS IS OF BULK AT MOST 1048576: true; the input reads as it did. -/
def leafPutsUptoRow : OpenClaim := { program := "ytfpnchnijfhjhaa", sum := "4b802cee33a000d2268b88c7c897b992df8466ed02321bc93ba5c2cf38ebfc10", func := "boscage/boscagelaw02.LeafPuts", spec := "leafPuts", unfollowed := true, recurses := true, apart := false, narrowed := true }
def LeafPutsUptoSaid : Prop := leafPutsUptoRow.holds Try.pinned (OpenSpec.upto leafPutsSpec)

/-- 'boscagelaw02.LeafCuts', WHERE WHAT IT READS IS OF BULK AT MOST 1048576: true; the input reads as it did. -/
def leafCutsUptoRow : OpenClaim := { program := "ytfpnchnijfhjhaa", sum := "4b802cee33a000d2268b88c7c897b992df8466ed02321bc93ba5c2cf38ebfc10", func := "boscage/boscagelaw02.LeafCuts", spec := "leafCuts", unfollowed := true, recurses := true, apart := false, narrowed := true }
def LeafCutsUptoSaid : Prop := leafCutsUptoRow.holds Try.pinned (OpenSpec.upto leafCutsSpec)

/-- 'boscagelaw02.LeafHalves', WHERE WHAT IT READS IS OF BULK AT MOST 1048576: true; the input reads as it did. -/
def leafHalvesUptoRow : OpenClaim := { program := "ytfpnchnijfhjhaa", sum := "4b802cee33a000d2268b88c7c897b992df8466ed02321bc93ba5c2cf38ebfc10", func := "boscage/boscagelaw02.LeafHalves", spec := "leafHalves", unfollowed := true, recurses := true, apart := false, narrowed := true }
def LeafHalvesUptoSaid : Prop := leafHalvesUptoRow.holds Try.pinned (OpenSpec.upto leafHalvesSpec)

/-- 'boscagelaw02.LeafJoins', WHERE WHAT IT READS IS OF BULK AT MOST 1048576: true; the input reads as it did. -/
def leafJoinsUptoRow : OpenClaim := { program := "ytfpnchnijfhjhaa", sum := "4b802cee33a000d2268b88c7c897b992df8466ed02321bc93ba5c2cf38ebfc10", func := "boscage/boscagelaw02.LeafJoins", spec := "leafJoins", unfollowed := true, recurses := true, apart := false, narrowed := true }
def LeafJoinsUptoSaid : Prop := leafJoinsUptoRow.holds Try.pinned (OpenSpec.upto leafJoinsSpec)

/-- 'boscagelaw02.LeafRises', WHERE WHAT IT READS IS OF BULK AT MOST 1048576: true; the input reads as it did. -/
def leafRisesUptoRow : OpenClaim := { program := "ytfpnchnijfhjhaa", sum := "4b802cee33a000d2268b88c7c897b992df8466ed02321bc93ba5c2cf38ebfc10", func := "boscage/boscagelaw02.LeafRises", spec := "leafRises", unfollowed := true, recurses := true, apart := false, narrowed := true }
def LeafRisesUptoSaid : Prop := leafRisesUptoRow.holds Try.pinned (OpenSpec.upto leafRisesSpec)

/-- 'boscagelaw02.LeafBetween', WHERE WHAT IT READS IS OF BULK AT MOST 1048576: true; the input reads as it did. -/
def leafBetweenUptoRow : OpenClaim := { program := "ytfpnchnijfhjhaa", sum := "4b802cee33a000d2268b88c7c897b992df8466ed02321bc93ba5c2cf38ebfc10", func := "boscage/boscagelaw02.LeafBetween", spec := "leafBetween", unfollowed := true, recurses := true, apart := false, narrowed := true }
def LeafBetweenUptoSaid : Prop := leafBetweenUptoRow.holds Try.pinned (OpenSpec.upto leafBetweenSpec)

/-- 'boscagelaw02.LeafChains', WHERE WHAT IT READS IS OF BULK AT MOST 1048576: true; the input reads as it did. -/
def leafChainsUptoRow : OpenClaim := { program := "ytfpnchnijfhjhaa", sum := "4b802cee33a000d2268b88c7c897b992df8466ed02321bc93ba5c2cf38ebfc10", func := "boscage/boscagelaw02.LeafChains", spec := "leafChains", unfollowed := true, recurses := true, apart := false, narrowed := true }
def LeafChainsUptoSaid : Prop := leafChainsUptoRow.holds Try.pinned (OpenSpec.upto leafChainsSpec)

/-- 'boscagelaw02.LeafUndoes', WHERE WHAT IT READS IS OF BULK AT MOST 1048576: true; the input reads as it did. -/
def leafUndoesUptoRow : OpenClaim := { program := "ytfpnchnijfhjhaa", sum := "4b802cee33a000d2268b88c7c897b992df8466ed02321bc93ba5c2cf38ebfc10", func := "boscage/boscagelaw02.LeafUndoes", spec := "leafUndoes", unfollowed := true, recurses := true, apart := false, narrowed := true }
def LeafUndoesUptoSaid : Prop := leafUndoesUptoRow.holds Try.pinned (OpenSpec.upto leafUndoesSpec)

/-- 'boscagelaw02.LeafKeeps', WHERE WHAT IT READS IS OF BULK AT MOST 1048576: true; the input reads as it did. -/
def leafKeepsUptoRow : OpenClaim := { program := "ytfpnchnijfhjhaa", sum := "4b802cee33a000d2268b88c7c897b992df8466ed02321bc93ba5c2cf38ebfc10", func := "boscage/boscagelaw02.LeafKeeps", spec := "leafKeeps", unfollowed := true, recurses := true, apart := false, narrowed := true }
def LeafKeepsUptoSaid : Prop := leafKeepsUptoRow.holds Try.pinned (OpenSpec.upto leafKeepsSpec)

end Rows
end Go.Proofs.Ytfpnchnijfhjhaa
