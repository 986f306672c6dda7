import Derived.Test.YtjpnkecfoealoaaVAwake
namespace Go.Proofs.Ytjpnkecfoealoaa.Vc
set_option maxRecDepth 20000
open Go.RowKit
set_option linter.unusedVariables false
theorem outV_ok {X Y Z : Int} (h : I64 X ∧ I64 Y ∧ I64 Z) : outV X Y Z = .tuple #[.agg #[.int .i64 X, .int .i64 Y, .int .i64 Z], .int .i64 0] := by unfold outV; rw [if_pos h]; rfl
theorem below_step {w w1 w2 : World} (hB : Below w.heap.size w w1) (hb : Below w1.heap.size w1 w2) : Below w.heap.size w w2 := hB.trans (hb.mono hB.size)
theorem below_box {w w1 : World} (hB : Below w.heap.size w w1) (o : Obj) : Below w.heap.size w (w1.alloc o) := hB.alloc hB.size o
end Go.Proofs.Ytjpnkecfoealoaa.Vc
