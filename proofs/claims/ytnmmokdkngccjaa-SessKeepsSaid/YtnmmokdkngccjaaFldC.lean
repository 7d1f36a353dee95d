/-
  The contract of the reference's Parse (layer 2).
-/
import Derived.Test.YtnmmokdkngccjaaFldA
import Derived.Test.YtnmmokdkngccjaaPlSeg
import Derived.Test.YtnmmokdkngccjaaRow
namespace Go.Proofs.Ytnmmokdkngccjaa
open Go.RowKit
namespace Fld
open Num

end Fld
end Go.Proofs.Ytnmmokdkngccjaa
