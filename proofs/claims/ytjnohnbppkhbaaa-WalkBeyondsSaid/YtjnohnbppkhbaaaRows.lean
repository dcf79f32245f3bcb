/-
  No cell of these rows narrows 'for every input' (looked for: loops, veiled, ifaces, maps, wideKeys, modest, calm, conditions, laid).
  DERIVED. THE GIVEN ROWS OF THIS SEAT. 4 by the template 'for every input the law returns true; each argument reads behind the call as it read before'; 0 by the template 'total and deterministic' (their statements: YtjnohnbppkhbaaaTotals.lean).
  GIVEN WITH THE SEED: the statements are not yours to turn. If you find one false, say at which input.
  Laid BY PROGRAM, IN A SANDBOX (cutbox-rows.mjs): the forced cells as the released guide's own fill.sh prints them over the translation d74be3cfc6d345d2… (all of the seat's roots in one cut). By AI agents, Wed Nov 11 2026. No macro, syntax, notation, axiom, sorry.
-/
import Derived.Test.YtjnohnbppkhbaaaChecked
import GoSem.Claim
import GoSem.ClaimJoined
import GoSem.ClaimMapViews
import Derived.JoinedTies
import Derived.KernelRfl
namespace Go.Proofs.Ytjnohnbppkhbaaa
/- THE CELL 'sum', in the pinned program and in every row, IS THE sha256 OF THE DUMP (.gsa) THAT YtjnohnbppkhbaaaProg.lean LOADS. Nothing in Lean hashes anything: it is a label: what it is worth is what the hold of that sum in a sandbox is worth. -/
noncomputable def Try.pinned : Pinned := { name := "ytjnohnbppkhbaaa", sum := "d74be3cfc6d345d274d137af971a1a0c41a86ebd946e6d2b32509070b8b9af06", checked := Try.checked }
namespace Rows
def none {H : Type} : Left H := { results := [], args := [] }

/-- 'tracerylaw05.WalkPieces': WHATEVER THE INPUT: true; the input reads as it did. -/
def walkPiecesSpec : ChangeSpec := { name := "walkPieces", fn := fun _ => fun
  | [d1, d2] => { results := [.lit (.bool true)], args := [d1, d2] }
  | _ => none }
def walkPiecesRow : OpenClaim := { program := "ytjnohnbppkhbaaa", sum := "d74be3cfc6d345d274d137af971a1a0c41a86ebd946e6d2b32509070b8b9af06", func := "tracery/tracerylaw05.WalkPieces", spec := "walkPieces", unfollowed := true, recurses := true, apart := false }
def WalkPiecesSaid : Prop := walkPiecesRow.holds Try.pinned (OpenSpec.ofChange walkPiecesSpec)

/-- ITS FALSE NEIGHBOUR: 'it returns false'. Refute it at one input. -/
def walkPiecesWrong : ChangeSpec := { name := "walkPieces", fn := fun _ => fun
  | [d1, d2] => { results := [.lit (.bool false)], args := [d1, d2] }
  | _ => none }
def WalkPiecesWrongFalsely : Prop := walkPiecesRow.holds Try.pinned (OpenSpec.ofChange walkPiecesWrong)

/-- 'tracerylaw05.WalkPaths': WHATEVER THE INPUT: true; the input reads as it did. -/
def walkPathsSpec : ChangeSpec := { name := "walkPaths", fn := fun _ => fun
  | [d1, d2, d3, d4] => { results := [.lit (.bool true)], args := [d1, d2, d3, d4] }
  | _ => none }
def walkPathsRow : OpenClaim := { program := "ytjnohnbppkhbaaa", sum := "d74be3cfc6d345d274d137af971a1a0c41a86ebd946e6d2b32509070b8b9af06", func := "tracery/tracerylaw05.WalkPaths", spec := "walkPaths", unfollowed := true, recurses := true, apart := false }
def WalkPathsSaid : Prop := walkPathsRow.holds Try.pinned (OpenSpec.ofChange walkPathsSpec)

/-- ITS FALSE NEIGHBOUR: 'it returns false'. Refute it at one input. -/
def walkPathsWrong : ChangeSpec := { name := "walkPaths", fn := fun _ => fun
  | [d1, d2, d3, d4] => { results := [.lit (.bool false)], args := [d1, d2, d3, d4] }
  | _ => none }
def WalkPathsWrongFalsely : Prop := walkPathsRow.holds Try.pinned (OpenSpec.ofChange walkPathsWrong)

/-- 'tracerylaw05.WalkFars': WHATEVER THE INPUT: true; the input reads as it did. -/
def walkFarsSpec : ChangeSpec := { name := "walkFars", fn := fun _ => fun
  | [d1, d2, d3] => { results := [.lit (.bool true)], args := [d1, d2, d3] }
  | _ => none }
def walkFarsRow : OpenClaim := { program := "ytjnohnbppkhbaaa", sum := "d74be3cfc6d345d274d137af971a1a0c41a86ebd946e6d2b32509070b8b9af06", func := "tracery/tracerylaw05.WalkFars", spec := "walkFars", unfollowed := true, recurses := true, apart := false }
def WalkFarsSaid : Prop := walkFarsRow.holds Try.pinned (OpenSpec.ofChange walkFarsSpec)

/-- ITS FALSE NEIGHBOUR: 'it returns false'. Refute it at one input. -/
def walkFarsWrong : ChangeSpec := { name := "walkFars", fn := fun _ => fun
  | [d1, d2, d3] => { results := [.lit (.bool false)], args := [d1, d2, d3] }
  | _ => none }
def WalkFarsWrongFalsely : Prop := walkFarsRow.holds Try.pinned (OpenSpec.ofChange walkFarsWrong)

/-- 'tracerylaw05.WalkBeyonds': WHATEVER THE INPUT: true; the input reads as it did. -/
def walkBeyondsSpec : ChangeSpec := { name := "walkBeyonds", fn := fun _ => fun
  | [d1, d2, d3] => { results := [.lit (.bool true)], args := [d1, d2, d3] }
  | _ => none }
def walkBeyondsRow : OpenClaim := { program := "ytjnohnbppkhbaaa", sum := "d74be3cfc6d345d274d137af971a1a0c41a86ebd946e6d2b32509070b8b9af06", func := "tracery/tracerylaw05.WalkBeyonds", spec := "walkBeyonds", unfollowed := true, recurses := true, apart := false }
def WalkBeyondsSaid : Prop := walkBeyondsRow.holds Try.pinned (OpenSpec.ofChange walkBeyondsSpec)

/-- ITS FALSE NEIGHBOUR: 'it returns false'. Refute it at one input. -/
def walkBeyondsWrong : ChangeSpec := { name := "walkBeyonds", fn := fun _ => fun
  | [d1, d2, d3] => { results := [.lit (.bool false)], args := [d1, d2, d3] }
  | _ => none }
def WalkBeyondsWrongFalsely : Prop := walkBeyondsRow.holds Try.pinned (OpenSpec.ofChange walkBeyondsWrong)

/- THE SECOND FORM. 'bulk': how many values and letters a reading holds, each counted each time it is reached (what is shared counts as often as it is met; a slice's spare places count too). A statement '..UptoSaid' is the law's where the arguments, and the package variables that the reading takes, are together of bulk at most 1048576: NARROWER than '..Said'. Prove '..Said' where nothing that the law and all that it calls make is longer than what came in: it says more and counts as full. Else prove '..UptoSaid'. A law counts once. -/
mutual
def uptoBulk {H : Type} : DataW H → Nat
  | .lit (.string bytes) => bytes.length + 1
  | .lit _ => 1
  | .nil => 1
  | .ptr d => uptoBulk d + 1
  | .slice elems spare => uptoBulkAll elems + uptoBulkAll spare + 1
  | .agg parts => uptoBulkAll parts + 1
  | .iface _ d => uptoBulk d + 1
  | .map entries => uptoBulkEntries entries + 1
  | .held _ => 1
def uptoBulkAll {H : Type} : List (DataW H) → Nat
  | [] => 0
  | d :: r => uptoBulk d + uptoBulkAll r
def uptoBulkEntries {H : Type} : List (Lit × DataW H) → Nat
  | [] => 0
  | x :: r => uptoBulkEntry x + uptoBulkEntries r
def uptoBulkEntry {H : Type} : Lit × DataW H → Nat
  | (.string bytes, d) => bytes.length + uptoBulk d + 1
  | (_, d) => uptoBulk d + 1
 end
def uptoSmall : (H : Type) → List (DataW H) → Bool := fun _ ds => decide (uptoBulkAll ds ≤ 1048576)
def OpenSpec.upto (s : _root_.Go.ChangeSpec) : _root_.Go.OpenSpec := { _root_.Go.OpenSpec.ofChange s with cond := some uptoSmall }

/-- 'tracerylaw05.WalkPieces', WHERE WHAT IT READS IS OF BULK AT MOST 1048576: true; the input reads as it did. -/
def walkPiecesUptoRow : OpenClaim := { program := "ytjnohnbppkhbaaa", sum := "d74be3cfc6d345d274d137af971a1a0c41a86ebd946e6d2b32509070b8b9af06", func := "tracery/tracerylaw05.WalkPieces", spec := "walkPieces", unfollowed := true, recurses := true, apart := false, narrowed := true }
def WalkPiecesUptoSaid : Prop := walkPiecesUptoRow.holds Try.pinned (OpenSpec.upto walkPiecesSpec)

/-- 'tracerylaw05.WalkPaths', WHERE WHAT IT READS IS OF BULK AT MOST 1048576: true; the input reads as it did. -/
def walkPathsUptoRow : OpenClaim := { program := "ytjnohnbppkhbaaa", sum := "d74be3cfc6d345d274d137af971a1a0c41a86ebd946e6d2b32509070b8b9af06", func := "tracery/tracerylaw05.WalkPaths", spec := "walkPaths", unfollowed := true, recurses := true, apart := false, narrowed := true }
def WalkPathsUptoSaid : Prop := walkPathsUptoRow.holds Try.pinned (OpenSpec.upto walkPathsSpec)

/-- 'tracerylaw05.WalkFars', WHERE WHAT IT READS IS OF BULK AT MOST 1048576: true; the input reads as it did. -/
def walkFarsUptoRow : OpenClaim := { program := "ytjnohnbppkhbaaa", sum := "d74be3cfc6d345d274d137af971a1a0c41a86ebd946e6d2b32509070b8b9af06", func := "tracery/tracerylaw05.WalkFars", spec := "walkFars", unfollowed := true, recurses := true, apart := false, narrowed := true }
def WalkFarsUptoSaid : Prop := walkFarsUptoRow.holds Try.pinned (OpenSpec.upto walkFarsSpec)

/-- 'tracerylaw05.WalkBeyonds', WHERE WHAT IT READS IS OF BULK AT MOST 1048576: true; the input reads as it did. -/
def walkBeyondsUptoRow : OpenClaim := { program := "ytjnohnbppkhbaaa", sum := "d74be3cfc6d345d274d137af971a1a0c41a86ebd946e6d2b32509070b8b9af06", func := "tracery/tracerylaw05.WalkBeyonds", spec := "walkBeyonds", unfollowed := true, recurses := true, apart := false, narrowed := true }
def WalkBeyondsUptoSaid : Prop := walkBeyondsUptoRow.holds Try.pinned (OpenSpec.upto walkBeyondsSpec)

end Rows
end Go.Proofs.Ytjnohnbppkhbaaa
