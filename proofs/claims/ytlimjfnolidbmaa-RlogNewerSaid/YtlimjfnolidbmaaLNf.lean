import Derived.Test.YtlimjfnolidbmaaLNe
import Derived.Test.YtlimjfnolidbmaaAr
namespace Go.Proofs.Ytlimjfnolidbmaa
open Go.RowKit RL
theorem law_newer3 (a b c : Int × Int) (w : World) (_ : I64 a.1 ∧ I64 a.2) (_ : I64 b.1 ∧ I64 b.2) (_ : I64 c.1 ∧ I64 c.2) : Calls Try.prog 7 #[.agg #[.int .i64 a.1, .int .i64 a.2], .agg #[.int .i64 b.1, .int .i64 b.2], .agg #[.int .i64 c.1, .int .i64 c.2]] w (RetBelow (.bool true) w) := law_newer a b c w
end Go.Proofs.Ytlimjfnolidbmaa
