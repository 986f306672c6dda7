import Derived.Test.YtodalljccjcejaaRows
import Derived.Test.YtodalljccjcejaaPn
import Derived.Shelf.Strings.Prefix
import Derived.WalkKit
import Derived.ProofKit
import Derived.WalkLawsBesides
import Derived.Outline
import Derived.Deep.QuietTactic
import Derived.BigQuiet
import Derived.Lib.Hide
namespace Go.Proofs.Ytodalljccjcejaa
open Go.RowKit Go.Shelf
set_option linter.unusedVariables false

/-- the library's HasPrefix, at this program -/
def ren99 : Go.Shelf.Ren := ⟨fun | 99 => 28 | 206 => 31 | n => n, fun | 9 => 9 | 4 => 4 | 3 => 3 | n => n, fun | n => n⟩
theorem lays99 : Go.Proofs.Lays.n99 Try.prog ren99 := {
  mixed := by kernel_rfl
  f99 := Try.func28.trans (congrArg some (by kernel_rfl))
  f206 := Try.func31.trans (congrArg some (by kernel_rfl))
  t3 := Try.underlying3
  a3 := Try.isAgg3
  z3 := Try.sizeOf3
  v3 := Try.zeroValue3
  t4 := Try.underlying4
  a4 := Try.isAgg4
  z4 := Try.sizeOf4
  v4 := Try.zeroValue4
  t9 := Try.underlying9
  a9 := Try.isAgg9
  z9 := Try.sizeOf9
  v9 := Try.zeroValue9 }
theorem hasPrefix_any (s p : ByteArray) (w : World) : Calls Try.prog 28 #[.string s, .string p] w fun e w' => e = .returned (.bool (Lib.hasPrefix s.data.toList p.data.toList)) ∧ w' = w := Any.strings_HasPrefix lays99 s p w

def alw (c : Nat) : Bool := !(decide (c < 33) || (decide (127 ≤ c) && decide (c ≤ 160)) || c == 8232 || c == 8233 || c == 65533)
def lowN (c : Nat) : Nat := if 65 ≤ c ∧ c ≤ 90 then c + 32 else c

theorem alw_iff (c : Nat) : alw c = true ↔ (33 ≤ c ∧ ¬ (127 ≤ c ∧ c ≤ 160) ∧ c ≠ 8232 ∧ c ≠ 8233 ∧ c ≠ 65533) := by
  simp [alw]; omega
theorem ret_t {b : Bool} (h : b = true) : Ending.returned (.bool true) = .returned (.bool b) := by rw [h]
theorem ret_f {b : Bool} (h : ¬ b = true) : Ending.returned (.bool false) = .returned (.bool b) := by rw [Bool.eq_false_iff.2 h]

theorem lowN_is (c : Nat) : (65 ≤ c ∧ c ≤ 90 ∧ lowN c = c + 32) ∨ (¬ (65 ≤ c ∧ c ≤ 90) ∧ lowN c = c) := by
  unfold lowN; split <;> omega
theorem ret_i {a b : Int} (h : a = b) : Ending.returned (.int .i32 a) = .returned (.int .i32 b) := by rw [h]
theorem ret_b {a b : Bool} (h : a = b) : Ending.returned (.bool a) = .returned (.bool b) := by rw [h]

set_option maxRecDepth 20000 in
theorem allowed_any (c : Nat) (w : World) (hc : c ≤ 1114111) : Calls Try.prog 26 #[.int .i32 c] w fun e w' => e = .returned (.bool (alw c)) ∧ w = w' := by
  have HI := Lib.hid (alw_iff c)
  generalize alw c = A at *
  go_enter Try.func26, Try.ntmps26
  go_wp2_with fail
  all_goals
    try simp only [beq_iff_eq, beq_eq_false_iff_ne] at *
    go_ret
    refine ⟨?_, rfl⟩
    first
      | (refine ret_t (HI.out.2 ?_); omega)
      | (refine ret_f (fun h => ?_); have := HI.out.1 h; omega)

set_option maxRecDepth 20000 in
theorem lower_any (c : Nat) (w : World) (hc : c ≤ 1114111) : Calls Try.prog 24 #[.int .i32 c] w fun e w' => e = .returned (.int .i32 (lowN c : Nat)) ∧ w = w' := by
  have HI := Lib.hid (lowN_is c)
  generalize lowN c = A at *
  go_enter Try.func24, Try.ntmps24
  go_wp2_with fail
  all_goals
    go_ret
    refine ⟨ret_i ?_, rfl⟩
    have := HI.out
    omega

set_option maxRecDepth 20000 in
theorem invalid_any (c : Nat) (s : ByteArray) (w : World) (hc : c ≤ 1114111) : Calls Try.prog 21 #[.int .i32 c, .string s] w fun e w' => e = .returned (.bool (c == 65533 && !([239, 191, 189] : List UInt8).isPrefixOf s.data.toList)) ∧ w = w' := by
  go_enter Try.func21, Try.ntmps21
  go_wp2_with (go_at_call 28; refine (hasPrefix_any _ _ _).mono ?_; rintro e w' ⟨rfl, rfl⟩)
  · have h : (c : Int) = 65533 := by assumption
    go_ret
    refine ⟨ret_b ?_, rfl⟩
    rw [show (c == 65533) = true from beq_iff_eq.2 (by omega), Bool.true_and]
    rfl
  · have h : ¬ (c : Int) = 65533 := by assumption
    go_ret
    refine ⟨ret_b ?_, rfl⟩
    rw [show (c == 65533) = false from beq_eq_false_iff_ne.2 (by omega)]
    rfl
end Go.Proofs.Ytodalljccjcejaa
