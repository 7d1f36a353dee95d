/-
  The contract of num.Right, for the layers above.
-/
import Derived.Test.YtnmmokdkngccjaaPlNum
import Derived.Test.YtnmmokdkngccjaaTools
import Derived.Test.YtnmmokdkngccjaaProg
namespace Go.Proofs.Ytnmmokdkngccjaa
open Go.RowKit
namespace Num

end Num
end Go.Proofs.Ytnmmokdkngccjaa
