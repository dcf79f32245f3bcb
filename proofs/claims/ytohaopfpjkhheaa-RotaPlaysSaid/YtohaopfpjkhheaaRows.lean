/-
  No cell of these rows narrows 'for every input' (looked for: loops, veiled, ifaces, maps, wideKeys, modest, calm, conditions, laid).
  DERIVED. THE GIVEN ROWS OF THIS SEAT. 5 by the template 'for every input the law returns true; each argument reads behind the call as it read before'; 0 by the template 'total and deterministic' (their statements: YtohaopfpjkhheaaTotals.lean).
  GIVEN WITH THE SEED: the statements are not yours to turn. If you find one false, say at which input.
  Laid BY PROGRAM, IN A SANDBOX (cutbox-rows.mjs): the forced cells as the released guide's own fill.sh prints them over the translation c55046735e360db2… (all of the seat's roots in one cut). By AI agents, Wed Nov 11 2026. No macro, syntax, notation, axiom, sorry.
-/
import Derived.Test.YtohaopfpjkhheaaChecked
import GoSem.Claim
import GoSem.ClaimJoined
import GoSem.ClaimMapViews
import Derived.JoinedTies
import Derived.KernelRfl
namespace Go.Proofs.Ytohaopfpjkhheaa
/- THE CELL 'sum', in the pinned program and in every row, IS THE sha256 OF THE DUMP (.gsa) THAT YtohaopfpjkhheaaProg.lean LOADS. Nothing in Lean hashes anything: it is a label: what it is worth is what the hold of that sum in a sandbox is worth. -/
noncomputable def Try.pinned : Pinned := { name := "ytohaopfpjkhheaa", sum := "c55046735e360db25327846ff99b59f59f274814a41d83084400c094c20e0ea5", checked := Try.checked }
namespace Rows
def none {H : Type} : Left H := { results := [], args := [] }

/-- 'tracerylaw06.RotaSteps': WHATEVER THE INPUT: true; the input reads as it did. -/
def rotaStepsSpec : ChangeSpec := { name := "rotaSteps", fn := fun _ => fun
  | [d1, d2, d3, d4] => { results := [.lit (.bool true)], args := [d1, d2, d3, d4] }
  | _ => none }
def rotaStepsRow : OpenClaim := { program := "ytohaopfpjkhheaa", sum := "c55046735e360db25327846ff99b59f59f274814a41d83084400c094c20e0ea5", func := "tracery/tracerylaw06.RotaSteps", spec := "rotaSteps", apart := false }
def RotaStepsSaid : Prop := rotaStepsRow.holds Try.pinned (OpenSpec.ofChange rotaStepsSpec)

/-- ITS FALSE NEIGHBOUR: 'it returns false'. Refute it at one input. -/
def rotaStepsWrong : ChangeSpec := { name := "rotaSteps", fn := fun _ => fun
  | [d1, d2, d3, d4] => { results := [.lit (.bool false)], args := [d1, d2, d3, d4] }
  | _ => none }
def RotaStepsWrongFalsely : Prop := rotaStepsRow.holds Try.pinned (OpenSpec.ofChange rotaStepsWrong)

/-- 'tracerylaw06.RotaMirror': WHATEVER THE INPUT: true; the input reads as it did. -/
def rotaMirrorSpec : ChangeSpec := { name := "rotaMirror", fn := fun _ => fun
  | [d1, d2, d3] => { results := [.lit (.bool true)], args := [d1, d2, d3] }
  | _ => none }
def rotaMirrorRow : OpenClaim := { program := "ytohaopfpjkhheaa", sum := "c55046735e360db25327846ff99b59f59f274814a41d83084400c094c20e0ea5", func := "tracery/tracerylaw06.RotaMirror", spec := "rotaMirror", unfollowed := true, recurses := true, apart := false }
def RotaMirrorSaid : Prop := rotaMirrorRow.holds Try.pinned (OpenSpec.ofChange rotaMirrorSpec)

/-- ITS FALSE NEIGHBOUR: 'it returns false'. Refute it at one input. -/
def rotaMirrorWrong : ChangeSpec := { name := "rotaMirror", fn := fun _ => fun
  | [d1, d2, d3] => { results := [.lit (.bool false)], args := [d1, d2, d3] }
  | _ => none }
def RotaMirrorWrongFalsely : Prop := rotaMirrorRow.holds Try.pinned (OpenSpec.ofChange rotaMirrorWrong)

/-- 'tracerylaw06.RotaPlays': WHATEVER THE INPUT: true; the input reads as it did. -/
def rotaPlaysSpec : ChangeSpec := { name := "rotaPlays", fn := fun _ => fun
  | [d1, d2, d3] => { results := [.lit (.bool true)], args := [d1, d2, d3] }
  | _ => none }
def rotaPlaysRow : OpenClaim := { program := "ytohaopfpjkhheaa", sum := "c55046735e360db25327846ff99b59f59f274814a41d83084400c094c20e0ea5", func := "tracery/tracerylaw06.RotaPlays", spec := "rotaPlays", unfollowed := true, recurses := true, apart := false }
def RotaPlaysSaid : Prop := rotaPlaysRow.holds Try.pinned (OpenSpec.ofChange rotaPlaysSpec)

/-- ITS FALSE NEIGHBOUR: 'it returns false'. Refute it at one input. -/
def rotaPlaysWrong : ChangeSpec := { name := "rotaPlays", fn := fun _ => fun
  | [d1, d2, d3] => { results := [.lit (.bool false)], args := [d1, d2, d3] }
  | _ => none }
def RotaPlaysWrongFalsely : Prop := rotaPlaysRow.holds Try.pinned (OpenSpec.ofChange rotaPlaysWrong)

/-- 'tracerylaw06.RotaNil': WHATEVER THE INPUT: true; the input reads as it did. -/
def rotaNilSpec : ChangeSpec := { name := "rotaNil", fn := fun _ => fun
  | [d] => { results := [.lit (.bool true)], args := [d] }
  | _ => none }
def rotaNilRow : OpenClaim := { program := "ytohaopfpjkhheaa", sum := "c55046735e360db25327846ff99b59f59f274814a41d83084400c094c20e0ea5", func := "tracery/tracerylaw06.RotaNil", spec := "rotaNil", unfollowed := true, recurses := true, apart := false }
def RotaNilSaid : Prop := rotaNilRow.holds Try.pinned (OpenSpec.ofChange rotaNilSpec)

/-- ITS FALSE NEIGHBOUR: 'it returns false'. Refute it at one input. -/
def rotaNilWrong : ChangeSpec := { name := "rotaNil", fn := fun _ => fun
  | [d] => { results := [.lit (.bool false)], args := [d] }
  | _ => none }
def RotaNilWrongFalsely : Prop := rotaNilRow.holds Try.pinned (OpenSpec.ofChange rotaNilWrong)

/-- 'tracerylaw06.RotaAgain': WHATEVER THE INPUT: true; the input reads as it did. -/
def rotaAgainSpec : ChangeSpec := { name := "rotaAgain", fn := fun _ => fun
  | [d1, d2, d3] => { results := [.lit (.bool true)], args := [d1, d2, d3] }
  | _ => none }
def rotaAgainRow : OpenClaim := { program := "ytohaopfpjkhheaa", sum := "c55046735e360db25327846ff99b59f59f274814a41d83084400c094c20e0ea5", func := "tracery/tracerylaw06.RotaAgain", spec := "rotaAgain", unfollowed := true, recurses := true, apart := false }
def RotaAgainSaid : Prop := rotaAgainRow.holds Try.pinned (OpenSpec.ofChange rotaAgainSpec)

/-- ITS FALSE NEIGHBOUR: 'it returns false'. Refute it at one input. -/
def rotaAgainWrong : ChangeSpec := { name := "rotaAgain", fn := fun _ => fun
  | [d1, d2, d3] => { results := [.lit (.bool false)], args := [d1, d2, d3] }
  | _ => none }
def RotaAgainWrongFalsely : Prop := rotaAgainRow.holds Try.pinned (OpenSpec.ofChange rotaAgainWrong)

/- THE SECOND FORM. 'bulk': how many values and letters a reading holds, each counted each time it is reached (what is shared counts as often as it is met; a slice's spare places count too). A statement '..UptoSaid' is the law's where the arguments, and the package variables that the reading takes, are together of bulk at most 1048576: NARROWER than '..Said'. Prove '..Said' where nothing that the law and all that it calls make is longer than what came in: it says more and counts as full. Else prove '..UptoSaid'. A law counts once. -/
mutual
def uptoBulk {H : Type} : DataW H → Nat
  | .lit (.string bytes) => bytes.length + 1
  | .lit _ => 1
  | .nil => 1
  | .ptr d => uptoBulk d + 1
  | .slice elems spare => uptoBulkAll elems + uptoBulkAll spare + 1
  | .agg parts => uptoBulkAll parts + 1
  | .iface _ d => uptoBulk d + 1
  | .map entries => uptoBulkEntries entries + 1
  | .held _ => 1
def uptoBulkAll {H : Type} : List (DataW H) → Nat
  | [] => 0
  | d :: r => uptoBulk d + uptoBulkAll r
def uptoBulkEntries {H : Type} : List (Lit × DataW H) → Nat
  | [] => 0
  | x :: r => uptoBulkEntry x + uptoBulkEntries r
def uptoBulkEntry {H : Type} : Lit × DataW H → Nat
  | (.string bytes, d) => bytes.length + uptoBulk d + 1
  | (_, d) => uptoBulk d + 1
 end
def uptoSmall : (H : Type) → List (DataW H) → Bool := fun _ ds => decide (uptoBulkAll ds ≤ 1048576)
def OpenSpec.upto (s : _root_.Go.ChangeSpec) : _root_.Go.OpenSpec := { _root_.Go.OpenSpec.ofChange s with cond := some uptoSmall }

/-- 'tracerylaw06.RotaSteps', WHERE WHAT IT READS IS OF BULK AT MOST 1048576: true; the input reads as it did. -/
def rotaStepsUptoRow : OpenClaim := { program := "ytohaopfpjkhheaa", sum := "c55046735e360db25327846ff99b59f59f274814a41d83084400c094c20e0ea5", func := "tracery/tracerylaw06.RotaSteps", spec := "rotaSteps", apart := false, narrowed := true }
def RotaStepsUptoSaid : Prop := rotaStepsUptoRow.holds Try.pinned (OpenSpec.upto rotaStepsSpec)

/-- 'tracerylaw06.RotaMirror', WHERE WHAT IT READS IS OF BULK AT MOST 1048576: true; the input reads as it did. -/
def rotaMirrorUptoRow : OpenClaim := { program := "ytohaopfpjkhheaa", sum := "c55046735e360db25327846ff99b59f59f274814a41d83084400c094c20e0ea5", func := "tracery/tracerylaw06.RotaMirror", spec := "rotaMirror", unfollowed := true, recurses := true, apart := false, narrowed := true }
def RotaMirrorUptoSaid : Prop := rotaMirrorUptoRow.holds Try.pinned (OpenSpec.upto rotaMirrorSpec)

/-- 'tracerylaw06.RotaPlays', WHERE WHAT IT READS IS OF BULK AT MOST 1048576: true; the input reads as it did. -/
def rotaPlaysUptoRow : OpenClaim := { program := "ytohaopfpjkhheaa", sum := "c55046735e360db25327846ff99b59f59f274814a41d83084400c094c20e0ea5", func := "tracery/tracerylaw06.RotaPlays", spec := "rotaPlays", unfollowed := true, recurses := true, apart := false, narrowed := true }
def RotaPlaysUptoSaid : Prop := rotaPlaysUptoRow.holds Try.pinned (OpenSpec.upto rotaPlaysSpec)

/-- 'tracerylaw06.RotaNil', WHERE WHAT IT READS IS OF BULK AT MOST 1048576: true; the input reads as it did. -/
def rotaNilUptoRow : OpenClaim := { program := "ytohaopfpjkhheaa", sum := "c55046735e360db25327846ff99b59f59f274814a41d83084400c094c20e0ea5", func := "tracery/tracerylaw06.RotaNil", spec := "rotaNil", unfollowed := true, recurses := true, apart := false, narrowed := true }
def RotaNilUptoSaid : Prop := rotaNilUptoRow.holds Try.pinned (OpenSpec.upto rotaNilSpec)

/-- 'tracerylaw06.RotaAgain', WHERE WHAT IT READS IS OF BULK AT MOST 1048576: true; the input reads as it did. -/
def rotaAgainUptoRow : OpenClaim := { program := "ytohaopfpjkhheaa", sum := "c55046735e360db25327846ff99b59f59f274814a41d83084400c094c20e0ea5", func := "tracery/tracerylaw06.RotaAgain", spec := "rotaAgain", unfollowed := true, recurses := true, apart := false, narrowed := true }
def RotaAgainUptoSaid : Prop := rotaAgainUptoRow.holds Try.pinned (OpenSpec.upto rotaAgainSpec)

end Rows
end Go.Proofs.Ytohaopfpjkhheaa
