/-
  The library's contracts at this program: laid, then written out in plain words by wip/tools/plain.
-/
import Derived.Shelf.LaySoft
import Derived.Shelf.SlGeneric
import Derived.Shelf.SlicesG.Turned
import Derived.Shelf.SlicesG.Clone
import Derived.Shelf.SlicesG.Equal
import Derived.Shelf.SlicesG.Reverse
import Derived.Shelf.SlIterI.Nil
import Derived.Shelf.SortM.Plain
import Derived.Shelf.SortM.SortNone
import Derived.Ground.SlgnProg
import Derived.Ground.SlgmProg
import Derived.Ground.GgzProg
import Derived.Test.YtmbpmepoaonleaaGreatRows
namespace Go.Proofs
open Go.Shelf
shelf_try shelf_lay_g SlLaysN.n29 Slgn 29 at Tryz 84 as Tryz.laysIndex
shelf_try shelf_lay_g SlLaysN.n39 Slgn 39 at Tryz 65 as Tryz.laysMin
shelf_try shelf_lay_g SlLaysM.n5 Slgm 5 at Tryz 131 as Tryz.laysSort
shelf_try shelf_lay_g SlLaysN.n41 Slgn 41 at Tryz 83 as Tryz.laysClone
shelf_try shelf_lay_g SlLaysN.n35 Slgn 35 at Tryz 100 as Tryz.laysReverse
shelf_try shelf_lay_g SlLaysN.n31 Slgn 31 at Tryz 51 as Tryz.laysContains
shelf_try shelf_lay_g SlLaysN.n33 Slgn 33 at Tryz 40 as Tryz.laysEqual
shelf_try shelf_lay_g SlLaysZI.n7 Ggz 7 at Tryz 111 as Tryz.laysKeys
shelf_try shelf_lay_g SlLaysZI.n6 Ggz 6 at Tryz 110 as Tryz.laysSorted
shelf_tried
end Go.Proofs
