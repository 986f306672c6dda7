import Derived.Test.YtggndipfholllaaLsureA
import Derived.Test.YtggndipfholllaaLsureB
import Derived.Test.YtggndipfholllaaLsureC
import Derived.Test.YtggndipfholllaaLsureD
namespace Go.Proofs.Ytggndipfholllaa
open Go.RowKit
open PlainDisk (File Disk)
set_option linter.unusedVariables false

theorem law_sure (room : Int) (v : Value) (xs : List PlainDisk.Act) (v2 : Value) (ys : List PlainDisk.Act) (w : World) (r0 : -9223372036854775808 ≤ room) (r1 : room ≤ 9223372036854775807) (hx : ActsAt w v xs w.heap.size) (hy : ActsAt w v2 ys w.heap.size) :
    Calls Try.prog 4 #[.int .i64 room, v, v2] w (RetBelow (.bool true) w) := by
  by_cases hx80 : xs.length ≤ 80
  · by_cases hy80 : ys.length ≤ 80
    · exact law_sure_AA room v xs v2 ys w r0 r1 hx hy hx80 hy80
    · exact law_sure_AB room v xs v2 ys w r0 r1 hx hy hx80 (by omega)
  · by_cases hy80 : ys.length ≤ 80
    · exact law_sure_BA room v xs v2 ys w r0 r1 hx hy (by omega) hy80
    · exact law_sure_BB room v xs v2 ys w r0 r1 hx hy (by omega) (by omega)
end Go.Proofs.Ytggndipfholllaa
