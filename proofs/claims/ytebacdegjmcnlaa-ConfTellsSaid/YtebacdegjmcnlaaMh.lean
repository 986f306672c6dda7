import Derived.Test.YtebacdegjmcnlaaMg
import Derived.Test.YtebacdegjmcnlaaNc
namespace Go.Proofs.Ytebacdegjmcnlaa
open Go.RowKit Pl
set_option linter.unusedVariables false
set_option maxRecDepth 20000
theorem neq23v (a b c x y z : Int) (w : World) : (binOp .neq 39 (.agg #[.int .i64 a, .int .i64 b, .int .i64 c]) (.agg #[.int .i64 x, .int .i64 y, .int .i64 z])).run Try.prog w = .ok (.bool (!eqV a b c x y z)) w := by
  rw [run_neq_struct, show (10000 : Nat) = 9998 + 2 from rfl, eq23]
  rfl
theorem bld23 (w : World) : (Instr.build 39 #[]).run Try.prog w = .ok (.agg #[.int .i64 0, .int .i64 0, .int .i64 0]) w := Vc.build23_0 w
/-- a command is valid -/
def mayC (o : Int) (s t : ByteArray) (a b c n : Int) : Bool := Nm.may s.data.toList && fitF o t a b c n
def MayPost (o : Int) (s t : ByteArray) (a b c n : Int) (w : World) (e : Ending) (w' : World) : Prop := e = .returned (.bool (mayC o s t a b c n)) ∧ Below w.heap.size w w'
theorem mayPost {o : Int} {s t : ByteArray} {a b c n : Int} {w w' : World} {x : Bool} (h : x = mayC o s t a b c n) (hb : Below w.heap.size w w') : MayPost o s t a b c n w (.returned (.bool x)) w' := ⟨by rw [h], hb⟩
theorem toList0 {t : ByteArray} (h : (t.size == 0) = false) : (t.toList == []) = false := by
  rw [size0] at h
  rw [show ([] : List UInt8) = (⟨#[]⟩ : ByteArray).toList from by rw [ByteArray.toList_eq], ← beq_toListBytes]
  exact h
end Go.Proofs.Ytebacdegjmcnlaa
