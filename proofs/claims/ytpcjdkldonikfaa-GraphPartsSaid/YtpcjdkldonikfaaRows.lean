/-
  No cell of these rows narrows 'for every input' (looked for: loops, veiled, ifaces, maps, wideKeys, modest, calm, conditions, laid).
  DERIVED. THE GIVEN ROWS OF THIS SEAT. 6 by the template 'for every input the law returns true; each argument reads behind the call as it read before'; 0 by the template 'total and deterministic' (their statements: YtpcjdkldonikfaaTotals.lean).
  GIVEN WITH THE SEED: the statements are not yours to turn. If you find one false, say at which input.
  Laid BY PROGRAM, IN A SANDBOX (cutbox-rows.mjs): the forced cells as the released guide's own fill.sh prints them over the translation 39e5890b971adc15… (all of the seat's roots in one cut). By AI agents, Wed Nov 11 2026. No macro, syntax, notation, axiom, sorry.
-/
import Derived.Test.YtpcjdkldonikfaaChecked
import GoSem.Claim
import GoSem.ClaimJoined
import GoSem.ClaimMapViews
import Derived.JoinedTies
import Derived.KernelRfl
namespace Go.Proofs.Ytpcjdkldonikfaa
/- THE CELL 'sum', in the pinned program and in every row, IS THE sha256 OF THE DUMP (.gsa) THAT YtpcjdkldonikfaaProg.lean LOADS. Nothing in Lean hashes anything: it is a label: what it is worth is what the hold of that sum in a sandbox is worth. -/
noncomputable def Try.pinned : Pinned := { name := "ytpcjdkldonikfaa", sum := "39e5890b971adc1587a4a0f584c71766457a314c5fb313dfa0e9846f21213df8", checked := Try.checked }
namespace Rows
def none {H : Type} : Left H := { results := [], args := [] }

/-- 'tracerylaw04.GraphTwins': WHATEVER THE INPUT: true; the input reads as it did. -/
def graphTwinsSpec : ChangeSpec := { name := "graphTwins", fn := fun _ => fun
  | [d1, d2] => { results := [.lit (.bool true)], args := [d1, d2] }
  | _ => none }
def graphTwinsRow : OpenClaim := { program := "ytpcjdkldonikfaa", sum := "39e5890b971adc1587a4a0f584c71766457a314c5fb313dfa0e9846f21213df8", func := "tracery/tracerylaw04.GraphTwins", spec := "graphTwins", apart := false }
def GraphTwinsSaid : Prop := graphTwinsRow.holds Try.pinned (OpenSpec.ofChange graphTwinsSpec)

/-- ITS FALSE NEIGHBOUR: 'it returns false'. Refute it at one input. -/
def graphTwinsWrong : ChangeSpec := { name := "graphTwins", fn := fun _ => fun
  | [d1, d2] => { results := [.lit (.bool false)], args := [d1, d2] }
  | _ => none }
def GraphTwinsWrongFalsely : Prop := graphTwinsRow.holds Try.pinned (OpenSpec.ofChange graphTwinsWrong)

/-- 'tracerylaw04.GraphParts': WHATEVER THE INPUT: true; the input reads as it did. -/
def graphPartsSpec : ChangeSpec := { name := "graphParts", fn := fun _ => fun
  | [d1, d2, d3, d4] => { results := [.lit (.bool true)], args := [d1, d2, d3, d4] }
  | _ => none }
def graphPartsRow : OpenClaim := { program := "ytpcjdkldonikfaa", sum := "39e5890b971adc1587a4a0f584c71766457a314c5fb313dfa0e9846f21213df8", func := "tracery/tracerylaw04.GraphParts", spec := "graphParts", unfollowed := true, recurses := true, apart := false }
def GraphPartsSaid : Prop := graphPartsRow.holds Try.pinned (OpenSpec.ofChange graphPartsSpec)

/-- ITS FALSE NEIGHBOUR: 'it returns false'. Refute it at one input. -/
def graphPartsWrong : ChangeSpec := { name := "graphParts", fn := fun _ => fun
  | [d1, d2, d3, d4] => { results := [.lit (.bool false)], args := [d1, d2, d3, d4] }
  | _ => none }
def GraphPartsWrongFalsely : Prop := graphPartsRow.holds Try.pinned (OpenSpec.ofChange graphPartsWrong)

/-- 'tracerylaw04.GraphRights': WHATEVER THE INPUT: true; the input reads as it did. -/
def graphRightsSpec : ChangeSpec := { name := "graphRights", fn := fun _ => fun
  | [d1, d2, d3, d4] => { results := [.lit (.bool true)], args := [d1, d2, d3, d4] }
  | _ => none }
def graphRightsRow : OpenClaim := { program := "ytpcjdkldonikfaa", sum := "39e5890b971adc1587a4a0f584c71766457a314c5fb313dfa0e9846f21213df8", func := "tracery/tracerylaw04.GraphRights", spec := "graphRights", apart := false }
def GraphRightsSaid : Prop := graphRightsRow.holds Try.pinned (OpenSpec.ofChange graphRightsSpec)

/-- ITS FALSE NEIGHBOUR: 'it returns false'. Refute it at one input. -/
def graphRightsWrong : ChangeSpec := { name := "graphRights", fn := fun _ => fun
  | [d1, d2, d3, d4] => { results := [.lit (.bool false)], args := [d1, d2, d3, d4] }
  | _ => none }
def GraphRightsWrongFalsely : Prop := graphRightsRow.holds Try.pinned (OpenSpec.ofChange graphRightsWrong)

/-- 'tracerylaw04.GraphLists': WHATEVER THE INPUT: true; the input reads as it did. -/
def graphListsSpec : ChangeSpec := { name := "graphLists", fn := fun _ => fun
  | [d1, d2, d3] => { results := [.lit (.bool true)], args := [d1, d2, d3] }
  | _ => none }
def graphListsRow : OpenClaim := { program := "ytpcjdkldonikfaa", sum := "39e5890b971adc1587a4a0f584c71766457a314c5fb313dfa0e9846f21213df8", func := "tracery/tracerylaw04.GraphLists", spec := "graphLists", unfollowed := true, recurses := true, apart := false }
def GraphListsSaid : Prop := graphListsRow.holds Try.pinned (OpenSpec.ofChange graphListsSpec)

/-- ITS FALSE NEIGHBOUR: 'it returns false'. Refute it at one input. -/
def graphListsWrong : ChangeSpec := { name := "graphLists", fn := fun _ => fun
  | [d1, d2, d3] => { results := [.lit (.bool false)], args := [d1, d2, d3] }
  | _ => none }
def GraphListsWrongFalsely : Prop := graphListsRow.holds Try.pinned (OpenSpec.ofChange graphListsWrong)

/-- 'tracerylaw04.GraphSpans': WHATEVER THE INPUT: true; the input reads as it did. -/
def graphSpansSpec : ChangeSpec := { name := "graphSpans", fn := fun _ => fun
  | [d1, d2] => { results := [.lit (.bool true)], args := [d1, d2] }
  | _ => none }
def graphSpansRow : OpenClaim := { program := "ytpcjdkldonikfaa", sum := "39e5890b971adc1587a4a0f584c71766457a314c5fb313dfa0e9846f21213df8", func := "tracery/tracerylaw04.GraphSpans", spec := "graphSpans", apart := false }
def GraphSpansSaid : Prop := graphSpansRow.holds Try.pinned (OpenSpec.ofChange graphSpansSpec)

/-- ITS FALSE NEIGHBOUR: 'it returns false'. Refute it at one input. -/
def graphSpansWrong : ChangeSpec := { name := "graphSpans", fn := fun _ => fun
  | [d1, d2] => { results := [.lit (.bool false)], args := [d1, d2] }
  | _ => none }
def GraphSpansWrongFalsely : Prop := graphSpansRow.holds Try.pinned (OpenSpec.ofChange graphSpansWrong)

/-- 'tracerylaw04.GraphPuts': WHATEVER THE INPUT: true; the input reads as it did. -/
def graphPutsSpec : ChangeSpec := { name := "graphPuts", fn := fun _ => fun
  | [d1, d2, d3] => { results := [.lit (.bool true)], args := [d1, d2, d3] }
  | _ => none }
def graphPutsRow : OpenClaim := { program := "ytpcjdkldonikfaa", sum := "39e5890b971adc1587a4a0f584c71766457a314c5fb313dfa0e9846f21213df8", func := "tracery/tracerylaw04.GraphPuts", spec := "graphPuts", unfollowed := true, recurses := true, apart := false }
def GraphPutsSaid : Prop := graphPutsRow.holds Try.pinned (OpenSpec.ofChange graphPutsSpec)

/-- ITS FALSE NEIGHBOUR: 'it returns false'. Refute it at one input. -/
def graphPutsWrong : ChangeSpec := { name := "graphPuts", fn := fun _ => fun
  | [d1, d2, d3] => { results := [.lit (.bool false)], args := [d1, d2, d3] }
  | _ => none }
def GraphPutsWrongFalsely : Prop := graphPutsRow.holds Try.pinned (OpenSpec.ofChange graphPutsWrong)

/- THE SECOND FORM. 'bulk': how many values and letters a reading holds, each counted each time it is reached (what is shared counts as often as it is met; a slice's spare places count too). A statement '..UptoSaid' is the law's where the arguments, and the package variables that the reading takes, are together of bulk at most 1048576: NARROWER than '..Said'. Prove '..Said' where nothing that the law and all that it calls make is longer than what came in: it says more and counts as full. Else prove '..UptoSaid'. A law counts once. -/
mutual
def uptoBulk {H : Type} : DataW H → Nat
  | .lit (.string bytes) => bytes.length + 1
  | .lit _ => 1
  | .nil => 1
  | .ptr d => uptoBulk d + 1
  | .slice elems spare => uptoBulkAll elems + uptoBulkAll spare + 1
  | .agg parts => uptoBulkAll parts + 1
  | .iface _ d => uptoBulk d + 1
  | .map entries => uptoBulkEntries entries + 1
  | .held _ => 1
def uptoBulkAll {H : Type} : List (DataW H) → Nat
  | [] => 0
  | d :: r => uptoBulk d + uptoBulkAll r
def uptoBulkEntries {H : Type} : List (Lit × DataW H) → Nat
  | [] => 0
  | x :: r => uptoBulkEntry x + uptoBulkEntries r
def uptoBulkEntry {H : Type} : Lit × DataW H → Nat
  | (.string bytes, d) => bytes.length + uptoBulk d + 1
  | (_, d) => uptoBulk d + 1
 end
def uptoSmall : (H : Type) → List (DataW H) → Bool := fun _ ds => decide (uptoBulkAll ds ≤ 1048576)
def OpenSpec.upto (s : _root_.Go.ChangeSpec) : _root_.Go.OpenSpec := { _root_.Go.OpenSpec.ofChange s with cond := some uptoSmall }

/-- 'tracerylaw04.GraphTwins', WHERE WHAT IT READS IS OF BULK AT MOST 1048576: true; the input reads as it did. -/
def graphTwinsUptoRow : OpenClaim := { program := "ytpcjdkldonikfaa", sum := "39e5890b971adc1587a4a0f584c71766457a314c5fb313dfa0e9846f21213df8", func := "tracery/tracerylaw04.GraphTwins", spec := "graphTwins", apart := false, narrowed := true }
def GraphTwinsUptoSaid : Prop := graphTwinsUptoRow.holds Try.pinned (OpenSpec.upto graphTwinsSpec)

/-- 'tracerylaw04.GraphParts', WHERE WHAT IT READS IS OF BULK AT MOST 1048576: true; the input reads as it did. -/
def graphPartsUptoRow : OpenClaim := { program := "ytpcjdkldonikfaa", sum := "39e5890b971adc1587a4a0f584c71766457a314c5fb313dfa0e9846f21213df8", func := "tracery/tracerylaw04.GraphParts", spec := "graphParts", unfollowed := true, recurses := true, apart := false, narrowed := true }
def GraphPartsUptoSaid : Prop := graphPartsUptoRow.holds Try.pinned (OpenSpec.upto graphPartsSpec)

/-- 'tracerylaw04.GraphRights', WHERE WHAT IT READS IS OF BULK AT MOST 1048576: true; the input reads as it did. -/
def graphRightsUptoRow : OpenClaim := { program := "ytpcjdkldonikfaa", sum := "39e5890b971adc1587a4a0f584c71766457a314c5fb313dfa0e9846f21213df8", func := "tracery/tracerylaw04.GraphRights", spec := "graphRights", apart := false, narrowed := true }
def GraphRightsUptoSaid : Prop := graphRightsUptoRow.holds Try.pinned (OpenSpec.upto graphRightsSpec)

/-- 'tracerylaw04.GraphLists', WHERE WHAT IT READS IS OF BULK AT MOST 1048576: true; the input reads as it did. -/
def graphListsUptoRow : OpenClaim := { program := "ytpcjdkldonikfaa", sum := "39e5890b971adc1587a4a0f584c71766457a314c5fb313dfa0e9846f21213df8", func := "tracery/tracerylaw04.GraphLists", spec := "graphLists", unfollowed := true, recurses := true, apart := false, narrowed := true }
def GraphListsUptoSaid : Prop := graphListsUptoRow.holds Try.pinned (OpenSpec.upto graphListsSpec)

/-- 'tracerylaw04.GraphSpans', WHERE WHAT IT READS IS OF BULK AT MOST 1048576: true; the input reads as it did. -/
def graphSpansUptoRow : OpenClaim := { program := "ytpcjdkldonikfaa", sum := "39e5890b971adc1587a4a0f584c71766457a314c5fb313dfa0e9846f21213df8", func := "tracery/tracerylaw04.GraphSpans", spec := "graphSpans", apart := false, narrowed := true }
def GraphSpansUptoSaid : Prop := graphSpansUptoRow.holds Try.pinned (OpenSpec.upto graphSpansSpec)

/-- 'tracerylaw04.GraphPuts', WHERE WHAT IT READS IS OF BULK AT MOST 1048576: true; the input reads as it did. -/
def graphPutsUptoRow : OpenClaim := { program := "ytpcjdkldonikfaa", sum := "39e5890b971adc1587a4a0f584c71766457a314c5fb313dfa0e9846f21213df8", func := "tracery/tracerylaw04.GraphPuts", spec := "graphPuts", unfollowed := true, recurses := true, apart := false, narrowed := true }
def GraphPutsUptoSaid : Prop := graphPutsUptoRow.holds Try.pinned (OpenSpec.upto graphPutsSpec)

end Rows
end Go.Proofs.Ytpcjdkldonikfaa
