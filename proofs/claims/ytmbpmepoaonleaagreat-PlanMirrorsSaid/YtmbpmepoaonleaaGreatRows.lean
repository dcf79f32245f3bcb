/-
  No cell of these rows narrows 'for every input' (looked for: loops, veiled, ifaces, maps, wideKeys, modest, calm, conditions, laid).
  DERIVED. THE GIVEN ROWS OF THIS SEAT. 7 by the template 'for every input the law returns true; each argument reads behind the call as it read before'; 0 by the template 'total and deterministic' (their statements: YtmbpmepoaonleaaGreatTotals.lean).
  GIVEN WITH THE SEED: the statements are not yours to turn. If you find one false, say at which input.
  Laid BY PROGRAM, IN A SANDBOX (cutbox-rows.mjs): the forced cells as the released guide's own fill.sh prints them over the translation fdb83a66dff1b1b5… (all of the seat's roots in one cut). By AI agents, Wed Nov 11 2026. No macro, syntax, notation, axiom, sorry.
-/
import Derived.Test.YtmbpmepoaonleaaGreatChecked
import GoSem.Claim
import GoSem.ClaimJoined
import GoSem.ClaimMapViews
import Derived.JoinedTies
import Derived.KernelRfl
namespace Go.Proofs.YtmbpmepoaonleaaGreat
/- THE CELL 'sum', in the pinned program and in every row, IS THE sha256 OF THE DUMP (.gsa) THAT YtmbpmepoaonleaaGreatProg.lean LOADS. Nothing in Lean hashes anything: it is a label: what it is worth is what the hold of that sum in a sandbox is worth. -/
noncomputable def Tryz.pinned : Pinned := { name := "ytmbpmepoaonleaagreat", sum := "fdb83a66dff1b1b52c9dc1cbdb93cf061b1a9c87699f416a04cb48f69f6ae8c4", checked := Tryz.checked }
namespace Rows
def none {H : Type} : Left H := { results := [], args := [] }

/-- 'tracerylaw08.PlanMirror': WHATEVER THE INPUT: true; the input reads as it did. -/
def planMirrorSpec : ChangeSpec := { name := "planMirror", fn := fun _ => fun
  | [d1, d2, d3] => { results := [.lit (.bool true)], args := [d1, d2, d3] }
  | _ => none }
def planMirrorRow : OpenClaim := { program := "ytmbpmepoaonleaagreat", sum := "fdb83a66dff1b1b52c9dc1cbdb93cf061b1a9c87699f416a04cb48f69f6ae8c4", func := "tracery/tracerylaw08.PlanMirror", spec := "planMirror", unfollowed := true, recurses := true, apart := false }
def PlanMirrorSaid : Prop := planMirrorRow.holds Tryz.pinned (OpenSpec.ofChange planMirrorSpec)

/-- ITS FALSE NEIGHBOUR: 'it returns false'. Refute it at one input. -/
def planMirrorWrong : ChangeSpec := { name := "planMirror", fn := fun _ => fun
  | [d1, d2, d3] => { results := [.lit (.bool false)], args := [d1, d2, d3] }
  | _ => none }
def PlanMirrorWrongFalsely : Prop := planMirrorRow.holds Tryz.pinned (OpenSpec.ofChange planMirrorWrong)

/-- 'tracerylaw08.PlanEuler': WHATEVER THE INPUT: true; the input reads as it did. -/
def planEulerSpec : ChangeSpec := { name := "planEuler", fn := fun _ => fun
  | [d1, d2, d3] => { results := [.lit (.bool true)], args := [d1, d2, d3] }
  | _ => none }
def planEulerRow : OpenClaim := { program := "ytmbpmepoaonleaagreat", sum := "fdb83a66dff1b1b52c9dc1cbdb93cf061b1a9c87699f416a04cb48f69f6ae8c4", func := "tracery/tracerylaw08.PlanEuler", spec := "planEuler", unfollowed := true, recurses := true, apart := false }
def PlanEulerSaid : Prop := planEulerRow.holds Tryz.pinned (OpenSpec.ofChange planEulerSpec)

/-- ITS FALSE NEIGHBOUR: 'it returns false'. Refute it at one input. -/
def planEulerWrong : ChangeSpec := { name := "planEuler", fn := fun _ => fun
  | [d1, d2, d3] => { results := [.lit (.bool false)], args := [d1, d2, d3] }
  | _ => none }
def PlanEulerWrongFalsely : Prop := planEulerRow.holds Tryz.pinned (OpenSpec.ofChange planEulerWrong)

/-- 'tracerylaw08.PlanRights': WHATEVER THE INPUT: true; the input reads as it did. -/
def planRightsSpec : ChangeSpec := { name := "planRights", fn := fun _ => fun
  | [d1, d2, d3, d4] => { results := [.lit (.bool true)], args := [d1, d2, d3, d4] }
  | _ => none }
def planRightsRow : OpenClaim := { program := "ytmbpmepoaonleaagreat", sum := "fdb83a66dff1b1b52c9dc1cbdb93cf061b1a9c87699f416a04cb48f69f6ae8c4", func := "tracery/tracerylaw08.PlanRights", spec := "planRights", unfollowed := true, recurses := true, apart := false }
def PlanRightsSaid : Prop := planRightsRow.holds Tryz.pinned (OpenSpec.ofChange planRightsSpec)

/-- ITS FALSE NEIGHBOUR: 'it returns false'. Refute it at one input. -/
def planRightsWrong : ChangeSpec := { name := "planRights", fn := fun _ => fun
  | [d1, d2, d3, d4] => { results := [.lit (.bool false)], args := [d1, d2, d3, d4] }
  | _ => none }
def PlanRightsWrongFalsely : Prop := planRightsRow.holds Tryz.pinned (OpenSpec.ofChange planRightsWrong)

/-- 'tracerylaw08.PlanMirrors': WHATEVER THE INPUT: true; the input reads as it did. -/
def planMirrorsSpec : ChangeSpec := { name := "planMirrors", fn := fun _ => fun
  | [d1, d2, d3] => { results := [.lit (.bool true)], args := [d1, d2, d3] }
  | _ => none }
def planMirrorsRow : OpenClaim := { program := "ytmbpmepoaonleaagreat", sum := "fdb83a66dff1b1b52c9dc1cbdb93cf061b1a9c87699f416a04cb48f69f6ae8c4", func := "tracery/tracerylaw08.PlanMirrors", spec := "planMirrors", unfollowed := true, recurses := true, apart := false }
def PlanMirrorsSaid : Prop := planMirrorsRow.holds Tryz.pinned (OpenSpec.ofChange planMirrorsSpec)

/-- ITS FALSE NEIGHBOUR: 'it returns false'. Refute it at one input. -/
def planMirrorsWrong : ChangeSpec := { name := "planMirrors", fn := fun _ => fun
  | [d1, d2, d3] => { results := [.lit (.bool false)], args := [d1, d2, d3] }
  | _ => none }
def PlanMirrorsWrongFalsely : Prop := planMirrorsRow.holds Tryz.pinned (OpenSpec.ofChange planMirrorsWrong)

/-- 'tracerylaw08.PlanCleans': WHATEVER THE INPUT: true; the input reads as it did. -/
def planCleansSpec : ChangeSpec := { name := "planCleans", fn := fun _ => fun
  | [d1, d2] => { results := [.lit (.bool true)], args := [d1, d2] }
  | _ => none }
def planCleansRow : OpenClaim := { program := "ytmbpmepoaonleaagreat", sum := "fdb83a66dff1b1b52c9dc1cbdb93cf061b1a9c87699f416a04cb48f69f6ae8c4", func := "tracery/tracerylaw08.PlanCleans", spec := "planCleans", unfollowed := true, recurses := true, apart := false }
def PlanCleansSaid : Prop := planCleansRow.holds Tryz.pinned (OpenSpec.ofChange planCleansSpec)

/-- ITS FALSE NEIGHBOUR: 'it returns false'. Refute it at one input. -/
def planCleansWrong : ChangeSpec := { name := "planCleans", fn := fun _ => fun
  | [d1, d2] => { results := [.lit (.bool false)], args := [d1, d2] }
  | _ => none }
def PlanCleansWrongFalsely : Prop := planCleansRow.holds Tryz.pinned (OpenSpec.ofChange planCleansWrong)

/-- 'tracerylaw08.PlanLone': WHATEVER THE INPUT: true; the input reads as it did. -/
def planLoneSpec : ChangeSpec := { name := "planLone", fn := fun _ => fun
  | [d1, d2, d3] => { results := [.lit (.bool true)], args := [d1, d2, d3] }
  | _ => none }
def planLoneRow : OpenClaim := { program := "ytmbpmepoaonleaagreat", sum := "fdb83a66dff1b1b52c9dc1cbdb93cf061b1a9c87699f416a04cb48f69f6ae8c4", func := "tracery/tracerylaw08.PlanLone", spec := "planLone", unfollowed := true, recurses := true, apart := false }
def PlanLoneSaid : Prop := planLoneRow.holds Tryz.pinned (OpenSpec.ofChange planLoneSpec)

/-- ITS FALSE NEIGHBOUR: 'it returns false'. Refute it at one input. -/
def planLoneWrong : ChangeSpec := { name := "planLone", fn := fun _ => fun
  | [d1, d2, d3] => { results := [.lit (.bool false)], args := [d1, d2, d3] }
  | _ => none }
def PlanLoneWrongFalsely : Prop := planLoneRow.holds Tryz.pinned (OpenSpec.ofChange planLoneWrong)

/-- 'tracerylaw08.PlanParts': WHATEVER THE INPUT: true; the input reads as it did. -/
def planPartsSpec : ChangeSpec := { name := "planParts", fn := fun _ => fun
  | [d1, d2, d3] => { results := [.lit (.bool true)], args := [d1, d2, d3] }
  | _ => none }
def planPartsRow : OpenClaim := { program := "ytmbpmepoaonleaagreat", sum := "fdb83a66dff1b1b52c9dc1cbdb93cf061b1a9c87699f416a04cb48f69f6ae8c4", func := "tracery/tracerylaw08.PlanParts", spec := "planParts", unfollowed := true, recurses := true, apart := false }
def PlanPartsSaid : Prop := planPartsRow.holds Tryz.pinned (OpenSpec.ofChange planPartsSpec)

/-- ITS FALSE NEIGHBOUR: 'it returns false'. Refute it at one input. -/
def planPartsWrong : ChangeSpec := { name := "planParts", fn := fun _ => fun
  | [d1, d2, d3] => { results := [.lit (.bool false)], args := [d1, d2, d3] }
  | _ => none }
def PlanPartsWrongFalsely : Prop := planPartsRow.holds Tryz.pinned (OpenSpec.ofChange planPartsWrong)

/- THE SECOND FORM. 'bulk': how many values and letters a reading holds, each counted each time it is reached (what is shared counts as often as it is met; a slice's spare places count too). A statement '..UptoSaid' is the law's where the arguments, and the package variables that the reading takes, are together of bulk at most 1048576: NARROWER than '..Said'. Prove '..Said' where nothing that the law and all that it calls make is longer than what came in: it says more and counts as full. Else prove '..UptoSaid'. A law counts once. -/
mutual
def uptoBulk {H : Type} : DataW H → Nat
  | .lit (.string bytes) => bytes.length + 1
  | .lit _ => 1
  | .nil => 1
  | .ptr d => uptoBulk d + 1
  | .slice elems spare => uptoBulkAll elems + uptoBulkAll spare + 1
  | .agg parts => uptoBulkAll parts + 1
  | .iface _ d => uptoBulk d + 1
  | .map entries => uptoBulkEntries entries + 1
  | .held _ => 1
def uptoBulkAll {H : Type} : List (DataW H) → Nat
  | [] => 0
  | d :: r => uptoBulk d + uptoBulkAll r
def uptoBulkEntries {H : Type} : List (Lit × DataW H) → Nat
  | [] => 0
  | x :: r => uptoBulkEntry x + uptoBulkEntries r
def uptoBulkEntry {H : Type} : Lit × DataW H → Nat
  | (.string bytes, d) => bytes.length + uptoBulk d + 1
  | (_, d) => uptoBulk d + 1
 end
def uptoSmall : (H : Type) → List (DataW H) → Bool := fun _ ds => decide (uptoBulkAll ds ≤ 1048576)
def OpenSpec.upto (s : _root_.Go.ChangeSpec) : _root_.Go.OpenSpec := { _root_.Go.OpenSpec.ofChange s with cond := some uptoSmall }

/-- 'tracerylaw08.PlanMirror', WHERE WHAT IT READS IS OF BULK AT MOST 1048576: true; the input reads as it did. -/
def planMirrorUptoRow : OpenClaim := { program := "ytmbpmepoaonleaagreat", sum := "fdb83a66dff1b1b52c9dc1cbdb93cf061b1a9c87699f416a04cb48f69f6ae8c4", func := "tracery/tracerylaw08.PlanMirror", spec := "planMirror", unfollowed := true, recurses := true, apart := false, narrowed := true }
def PlanMirrorUptoSaid : Prop := planMirrorUptoRow.holds Tryz.pinned (OpenSpec.upto planMirrorSpec)

/-- 'tracerylaw08.PlanEuler', WHERE WHAT IT READS IS OF BULK AT MOST 1048576: true; the input reads as it did. -/
def planEulerUptoRow : OpenClaim := { program := "ytmbpmepoaonleaagreat", sum := "fdb83a66dff1b1b52c9dc1cbdb93cf061b1a9c87699f416a04cb48f69f6ae8c4", func := "tracery/tracerylaw08.PlanEuler", spec := "planEuler", unfollowed := true, recurses := true, apart := false, narrowed := true }
def PlanEulerUptoSaid : Prop := planEulerUptoRow.holds Tryz.pinned (OpenSpec.upto planEulerSpec)

/-- 'tracerylaw08.PlanRights', WHERE WHAT IT READS IS OF BULK AT MOST 1048576: true; the input reads as it did. -/
def planRightsUptoRow : OpenClaim := { program := "ytmbpmepoaonleaagreat", sum := "fdb83a66dff1b1b52c9dc1cbdb93cf061b1a9c87699f416a04cb48f69f6ae8c4", func := "tracery/tracerylaw08.PlanRights", spec := "planRights", unfollowed := true, recurses := true, apart := false, narrowed := true }
def PlanRightsUptoSaid : Prop := planRightsUptoRow.holds Tryz.pinned (OpenSpec.upto planRightsSpec)

/-- 'tracerylaw08.PlanMirrors', WHERE WHAT IT READS IS OF BULK AT MOST 1048576: true; the input reads as it did. -/
def planMirrorsUptoRow : OpenClaim := { program := "ytmbpmepoaonleaagreat", sum := "fdb83a66dff1b1b52c9dc1cbdb93cf061b1a9c87699f416a04cb48f69f6ae8c4", func := "tracery/tracerylaw08.PlanMirrors", spec := "planMirrors", unfollowed := true, recurses := true, apart := false, narrowed := true }
def PlanMirrorsUptoSaid : Prop := planMirrorsUptoRow.holds Tryz.pinned (OpenSpec.upto planMirrorsSpec)

/-- 'tracerylaw08.PlanCleans', WHERE WHAT IT READS IS OF BULK AT MOST 1048576: true; the input reads as it did. -/
def planCleansUptoRow : OpenClaim := { program := "ytmbpmepoaonleaagreat", sum := "fdb83a66dff1b1b52c9dc1cbdb93cf061b1a9c87699f416a04cb48f69f6ae8c4", func := "tracery/tracerylaw08.PlanCleans", spec := "planCleans", unfollowed := true, recurses := true, apart := false, narrowed := true }
def PlanCleansUptoSaid : Prop := planCleansUptoRow.holds Tryz.pinned (OpenSpec.upto planCleansSpec)

/-- 'tracerylaw08.PlanLone', WHERE WHAT IT READS IS OF BULK AT MOST 1048576: true; the input reads as it did. -/
def planLoneUptoRow : OpenClaim := { program := "ytmbpmepoaonleaagreat", sum := "fdb83a66dff1b1b52c9dc1cbdb93cf061b1a9c87699f416a04cb48f69f6ae8c4", func := "tracery/tracerylaw08.PlanLone", spec := "planLone", unfollowed := true, recurses := true, apart := false, narrowed := true }
def PlanLoneUptoSaid : Prop := planLoneUptoRow.holds Tryz.pinned (OpenSpec.upto planLoneSpec)

/-- 'tracerylaw08.PlanParts', WHERE WHAT IT READS IS OF BULK AT MOST 1048576: true; the input reads as it did. -/
def planPartsUptoRow : OpenClaim := { program := "ytmbpmepoaonleaagreat", sum := "fdb83a66dff1b1b52c9dc1cbdb93cf061b1a9c87699f416a04cb48f69f6ae8c4", func := "tracery/tracerylaw08.PlanParts", spec := "planParts", unfollowed := true, recurses := true, apart := false, narrowed := true }
def PlanPartsUptoSaid : Prop := planPartsUptoRow.holds Tryz.pinned (OpenSpec.upto planPartsSpec)

end Rows
end Go.Proofs.YtmbpmepoaonleaaGreat
