import Derived.Test.YtjpnkecfoealoaaVShare
namespace Go.Proofs.Ytjpnkecfoealoaa.Vc
set_option maxRecDepth 20000
open Go.RowKit
set_option linter.unusedVariables false
theorem ok_small (x : Int) (h0 : -10 ≤ x) (h1 : x ≤ 10) : I64 x := ⟨by omega, by omega⟩
theorem ok_max : I64 9223372036854775807 := ⟨by omega, by omega⟩
theorem aw_sum (W : World) : Calls Try.prog 35 #[.slice (some ⟨W.heap.size, 0, none⟩) 3 3] (W.alloc (.cells #[.int .i64 9223372036854775807, .int .i64 0, .int .i64 0, .int .i64 1, .int .i64 0, .int .i64 0, .int .i64 (-1), .int .i64 0, .int .i64 0] 24))
    (RetBelow (.tuple #[.agg #[.int .i64 9223372036854775807, .int .i64 0, .int .i64 0], .int .i64 0]) (W.alloc (.cells #[.int .i64 9223372036854775807, .int .i64 0, .int .i64 0, .int .i64 1, .int .i64 0, .int .i64 0, .int .i64 (-1), .int .i64 0, .int .i64 0] 24))) := by
  have := sum3 9223372036854775807 0 0 1 0 0 (-1) 0 0 W ok_max (ok_small 0 (by omega) (by omega)) (ok_small 0 (by omega) (by omega)) (ok_small 1 (by omega) (by omega)) (ok_small 0 (by omega) (by omega)) (ok_small 0 (by omega) (by omega)) (ok_small (-1) (by omega) (by omega)) (ok_small 0 (by omega) (by omega)) (ok_small 0 (by omega) (by omega))
  unfold outV at this
  rw [if_pos (by decide)] at this
  exact this
theorem aw_add (W : World) : Calls Try.prog 21 #[.agg #[.int .i64 9223372036854775807, .int .i64 0, .int .i64 0], .agg #[.int .i64 1, .int .i64 0, .int .i64 0]] W (RetBelow (.tuple #[.agg #[.int .i64 0, .int .i64 0, .int .i64 0], .int .i64 6]) W) := by
  have := add_ret 9223372036854775807 0 0 1 0 0 W ok_max (ok_small 0 (by omega) (by omega)) (ok_small 0 (by omega) (by omega)) (ok_small 1 (by omega) (by omega)) (ok_small 0 (by omega) (by omega)) (ok_small 0 (by omega) (by omega))
  unfold outV at this
  rw [if_neg (by decide)] at this
  exact this
theorem aw_may1 (W : World) : Calls Try.prog 20 #[.agg #[.int .i64 9223372036854775807, .int .i64 0, .int .i64 0]] W (RetBelow (.bool true) W) := may_any _ _ _ W
theorem aw_may2 (W : World) : Calls Try.prog 20 #[.agg #[.int .i64 0, .int .i64 (-1), .int .i64 0]] W (RetBelow (.bool false) W) := may_any _ _ _ W
theorem aw_fits1 (W : World) : Calls Try.prog 22 #[.agg #[.int .i64 4, .int .i64 3, .int .i64 2], .agg #[.int .i64 4, .int .i64 3, .int .i64 2]] W (RetBelow (.bool true) W) := fits_any _ _ _ _ _ _ W
theorem aw_fits2 (W : World) : Calls Try.prog 22 #[.agg #[.int .i64 9223372036854775807, .int .i64 0, .int .i64 0], .agg #[.int .i64 4, .int .i64 3, .int .i64 2]] W (RetBelow (.bool false) W) := fits_any _ _ _ _ _ _ W
theorem aw_share (W : World) : Calls Try.prog 32 #[.agg #[.int .i64 1, .int .i64 0, .int .i64 5], .agg #[.int .i64 3, .int .i64 0, .int .i64 5]] W (RetBelow (.int .i64 1000) W) :=
  share_any 1 0 5 3 0 5 W (ok_small 1 (by omega) (by omega)) (ok_small 0 (by omega) (by omega)) (ok_small 5 (by omega) (by omega)) (ok_small 3 (by omega) (by omega)) (ok_small 0 (by omega) (by omega)) (ok_small 5 (by omega) (by omega))
end Go.Proofs.Ytjpnkecfoealoaa.Vc
