import Derived.Test.YtcmjehjjlbhlmaaLFits
namespace Go.Proofs.Ytcmjehjjlbhlmaa
open Go.RowKit
theorem law_fits' (a b c x y z p q r : Int) (w : World) (ba : I64 a) (bb : I64 b) (bc : I64 c) (bx : I64 x) (by' : I64 y) (bz : I64 z) (_ : I64 p) (_ : I64 q) (_ : I64 r) :
    Calls Try.prog 8 #[.agg #[.int .i64 a, .int .i64 b, .int .i64 c], .agg #[.int .i64 x, .int .i64 y, .int .i64 z], .agg #[.int .i64 p, .int .i64 q, .int .i64 r]] w (RetBelow (.bool true) w) :=
  law_fits a b c x y z p q r w ba bb bc bx by' bz
end Go.Proofs.Ytcmjehjjlbhlmaa
