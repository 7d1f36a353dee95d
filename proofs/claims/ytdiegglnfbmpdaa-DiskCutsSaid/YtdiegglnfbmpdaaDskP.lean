/-
  The program's layer 9, whole: right_any, read_any, write_any, sync_any, cut_any, crash_any.
-/
import Derived.Test.YtdiegglnfbmpdaaDskPf
