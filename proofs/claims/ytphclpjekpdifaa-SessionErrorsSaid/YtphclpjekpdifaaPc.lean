import Derived.Test.YtphclpjekpdifaaPb
import Derived.Test.YtphclpjekpdifaaPt
namespace Go.Proofs.Ytphclpjekpdifaa.SP
set_option linter.unusedVariables false
open Go.Proofs.Ytphclpjekpdifaa.Wi.Pl (It)
/-! ### saved, plain -/
def packS (r : Rp) : ByteArray := Wi.packR r.e r.s r.a r.b r.c r.n
def sesI (s : Ses) : It := .mk 3 0 ⟨#[]⟩ [Wi.nIt s.id, Wi.nIt s.seq, Wi.nIt s.u, Wi.sIt (packS s.r)]
def tabI (T : Tb) : It := .mk 3 0 ⟨#[]⟩ [Wi.nIt T.clk, Wi.nIt (T.lst + 1), .mk 3 0 ⟨#[]⟩ (T.L.map sesI)]
def save (T : Tb) : ByteArray := Wi.txt (tabI T)
end Go.Proofs.Ytphclpjekpdifaa.SP
