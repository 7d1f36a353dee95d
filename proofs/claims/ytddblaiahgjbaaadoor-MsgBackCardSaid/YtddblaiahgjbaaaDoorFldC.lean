/-
  The contract of the reference's Parse (layer 2).
-/
import Derived.Test.YtddblaiahgjbaaaDoorFldA
import Derived.Test.YtddblaiahgjbaaaDoorPlSeg
import Derived.Test.YtddblaiahgjbaaaDoorRow
namespace Go.Proofs.YtddblaiahgjbaaaDoor
open Go.RowKit
namespace Fld
open Num

theorem infoF : (Tryd.prog.info? 38).map (fun i => (i.zero, i.size, i.bytes)) = some (some (.agg #[.int .i64 0, .string ⟨#[]⟩]), 2, 24) := by kernel_rfl

end Fld
end Go.Proofs.YtddblaiahgjbaaaDoor
