import Derived.Test.YtggndipfholllaaLtearsA
import Derived.Test.YtggndipfholllaaLtearsB
namespace Go.Proofs.Ytggndipfholllaa
open Go.RowKit
open PlainDisk (File Disk)
set_option linter.unusedVariables false

theorem law_tears (room : Int) (v : Value) (xs : List PlainDisk.Act) (v2 : Value) (lv : List PlainDisk.Left) (w : World) (r0 : -9223372036854775808 ≤ room) (r1 : room ≤ 9223372036854775807) (hx : ActsAt w v xs w.heap.size) (hy : LAt w v2 lv (fun k => k < w.heap.size)) :
    Calls Try.prog 9 #[.int .i64 room, v, v2] w (RetBelow (.bool true) w) := by
  by_cases hx80 : xs.length ≤ 80
  · exact law_tears_A room v xs v2 lv w r0 r1 hx hy hx80
  · exact law_tears_B room v xs v2 lv w r0 r1 hx hy (by omega)
end Go.Proofs.Ytggndipfholllaa
