import Derived.Test.YtkhhmpcpcdadaaaRows
import Derived.Test.YtkhhmpcpcdadaaaPl
import Derived.WalkKit
import Derived.ProofKit
import Derived.WalkLawsBesides
import Derived.Outline
import Derived.Deep.QuietTactic
import Derived.BigQuiet
import Derived.Laws.BitsAllLaws
import Derived.Lib.Hide
namespace Go.Proofs.Ytkhhmpcpcdadaaa
open Go.RowKit
set_option linter.unusedVariables false

theorem ret_u32 {a b : Int} (h : a = b) : Ending.returned (.int .u32 a) = .returned (.int .u32 b) := by rw [h]

theorem and1 (x : Nat) (hx : x < 4294967296) : bits BinOp.and IntKind.u32 (x : Int) 1 = ((x % 2 : Nat) : Int) := by
  have := u32_and_nat x 1 hx (by omega)
  rw [Nat.and_one_is_mod] at this
  exact this
theorem xorP (x : Nat) (hx : x < 4294967296) : bits BinOp.xor IntKind.u32 (x : Int) 3988292384 = ((x ^^^ Pl.poly : Nat) : Int) := u32_xor_nat x Pl.poly hx (by decide)

set_option maxRecDepth 20000 in
theorem stepZero_any (x : Nat) (w : World) (hx : x < 4294967296) : Calls Try.prog 28 #[.int .u32 x] w fun e w' => e = .returned (.int .u32 (Pl.step0 x)) ∧ w = w' := by
  go_enter Try.func28, Try.ntmps28
  go_wp2_with fail
  · have h : (bits BinOp.and IntKind.u32 (↑x) 1 == 1) = true := by assumption
    rw [and1 x hx, beq_iff_eq] at h
    go_ret
    refine ⟨ret_u32 ?_, rfl⟩
    unfold Pl.step0
    rw [if_pos (by omega)]
    exact xorP (x / 2) (by omega)
  · have h : (bits BinOp.and IntKind.u32 (↑x) 1 == 1) = false := by assumption
    rw [and1 x hx, beq_eq_false_iff_ne] at h
    go_ret
    refine ⟨ret_u32 ?_, rfl⟩
    unfold Pl.step0
    rw [if_neg (by omega)]
    rfl

set_option maxRecDepth 20000 in
theorem refStep_any (x b : Nat) (w : World) (hx : x < 4294967296) (hb : b < 2) : Calls Try.prog 29 #[.int .u32 x, .int .u32 b] w fun e w' => e = .returned (.int .u32 (Pl.step x b)) ∧ w = w' := by
  have hxx := u32_xor_nat x b hx (by omega)
  have hlt : x ^^^ b < 4294967296 := Pl.xor_lt 32 hx (by omega)
  have HL := Lib.hid (show Pl.step x b = Pl.step0 (x ^^^ b) from rfl)
  generalize x ^^^ b = y at *
  generalize Pl.step x b = z at *
  go_enter Try.func29, Try.ntmps29
  go_wp2_with fail
  · have h : (((y : Int) % 2) == 1) = true := by assumption
    rw [beq_iff_eq] at h
    go_ret
    refine ⟨ret_u32 ?_, rfl⟩
    rw [HL.out]
    unfold Pl.step0
    rw [if_pos (by omega)]
    exact xorP (y / 2) (by omega)
  · have h : (((y : Int) % 2) == 1) = false := by assumption
    rw [beq_eq_false_iff_ne] at h
    go_ret
    refine ⟨ret_u32 ?_, rfl⟩
    rw [HL.out]
    unfold Pl.step0
    rw [if_neg (by omega)]
    rfl
end Go.Proofs.Ytkhhmpcpcdadaaa
