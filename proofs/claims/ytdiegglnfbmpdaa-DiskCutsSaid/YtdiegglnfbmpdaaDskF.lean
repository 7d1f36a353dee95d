/-
  Layer 9's laws, in the frames' words.
-/
import Derived.Test.YtdiegglnfbmpdaaDskK
import Derived.Test.YtdiegglnfbmpdaaDskC
import Derived.Test.YtdiegglnfbmpdaaArgB
import Derived.OpenShut
namespace Go.Proofs.Ytdiegglnfbmpdaa
open Go.RowKit
namespace Dsk

theorem fr_DiskKeeps (a : Option Addr) (len cap : Nat) (ds : List Dr) (fl : Int) (w : World) (hx : IsDos w a len cap ds) (hf : (Lit.int .u8 fl).wf = true) (hl : Laid w) :
    Calls Try.prog 3 #[.slice a len cap, .int .u8 fl] w fun e w' => e = .returned (.bool true) ∧ Below w.heap.size w w' :=
  law_DiskKeeps a len cap ds fl w hx (bounds_u8 hf) hl
theorem fr_DiskCuts (d : Dk) (h : Hs) (fl n : Int) (ba : Option Addr) (bl bc : Nat) (z : List Int) (k0 k1 : Int) (w : World) (hd : DkAt w d h) (hf : (Lit.int .u8 fl).wf = true) (hn : (Lit.int .u16 n).wf = true) (hb : IsRow .u8 w ba bl bc z) (hl : Laid w) :
    Calls Try.prog 4 #[.agg (d.arr h), .int .u8 fl, .int .u16 n, .slice ba bl bc, .agg #[.int .i64 k0, .int .i64 k1]] w fun e w' => e = .returned (.bool true) ∧ Below w.heap.size w w' := by
  obtain ⟨b, h1, _, h2⟩ := hb.bytes
  exact law_DiskCuts d h fl n ba bl bc b k0 k1 w hd (bounds_u8 hf) (bounds_u16 hn) ⟨h1, h2⟩ hl

end Dsk
end Go.Proofs.Ytdiegglnfbmpdaa
