/-
  The library's contract of slices.SortFunc at this program: laid, then written out in plain words by wip/tools/plain.
-/
import Derived.Shelf.LaySoft
import Derived.Shelf.SlGeneric
import Derived.Shelf.SlSortCmp.Whole1
import Derived.Ground.SlsfProg
import Derived.Test.YtmbpmepoaonleaaGreatRows
namespace Go.Proofs
open Go.Shelf
shelf_try shelf_lay_g SlLaysF.n6 Slsf 6 at Tryz 66 as Tryz.laysSortFunc
shelf_tried
end Go.Proofs
