import Derived.Test.YtebacdegjmcnlaaMd
namespace Go.Proofs.Ytebacdegjmcnlaa
open Go.RowKit Pl
set_option linter.unusedVariables false
set_option maxRecDepth 20000

def mk3 (A : Option Addr) (n c : Nat) : List Value := [.int .i64 3, .int .i64 0, .string ⟨#[]⟩, .slice A n c]
end Go.Proofs.Ytebacdegjmcnlaa
