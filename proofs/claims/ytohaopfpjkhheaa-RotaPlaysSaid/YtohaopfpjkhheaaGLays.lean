/-
  The layings stand in one text.
-/
import Derived.Test.YtohaopfpjkhheaaLays
