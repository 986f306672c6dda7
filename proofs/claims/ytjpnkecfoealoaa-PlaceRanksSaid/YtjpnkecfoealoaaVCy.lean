import Derived.Test.YtjpnkecfoealoaaVFits
import Derived.Shelf.Spec.BitsCarry
namespace Go.Proofs.Ytjpnkecfoealoaa.Vc
set_option maxRecDepth 20000
open Go.RowKit
set_option linter.unusedVariables false
def aS (x y : Int) : Int := (x + y) % 18446744073709551616
def aC (x y : Int) : Int := (x + y) / 18446744073709551616
def dS (x y : Int) : Int := (x - y) % 18446744073709551616
def dB (x y : Int) : Int := if x < y then 1 else 0
theorem add64 (x y : Int) (hx : 0 ≤ x) (hy : 0 ≤ y) (w : World) : (callFunc 58 #[.int .u64 x, .int .u64 y, .int .u64 0]).run Try.prog w = .ok (.value (.tuple #[.int .u64 (aS x y), .int .u64 (aC x y)])) w := by
  rw [run_callFunc_extern Try.func58 (by kernel_rfl) (by kernel_rfl) (by kernel_rfl) (e := add64Entry) (by kernel_rfl),
    run_add64 x y 0 hx hy (by omega) (by omega)]
  simp [Result.andThen, aS, aC]
/-- one place of a total, one number more -/
structure Up (l x h l' h' : Int) (s c gc : Int) : Prop where
  call : ∀ W : World, (callFunc 58 #[.int .u64 (IntKind.u64.wrap l), .int .u64 (IntKind.u64.wrap x), .int .u64 0]).run Try.prog W = .ok (.value (.tuple #[.int .u64 s, .int .u64 c])) W
  wl : IntKind.i64.wrap s = l'
  wc : IntKind.i64.wrap c = c
  wg : IntKind.i64.wrap (sg x + c) = gc
  wh : IntKind.i64.wrap (h + gc) = h'
  b0 : -9223372036854775808 ≤ x
  b1 : x ≤ 9223372036854775807
def lo (T : Int) : Int := (T + 9223372036854775808) % 18446744073709551616 - 9223372036854775808
def hi (T : Int) : Int := T / 18446744073709551616
/-- a number that a total may hold -/
def Big (T : Int) : Prop := -1208925819614629174706176 ≤ T ∧ T ≤ 1208925819614629174706176
def I64 (x : Int) : Prop := -9223372036854775808 ≤ x ∧ x ≤ 9223372036854775807
theorem lo_mod (T : Int) : lo T % 18446744073709551616 = T % 18446744073709551616 := by unfold lo; omega
theorem hi_up (T x : Int) (hx : I64 x) : hi T + (sg x + (T % 18446744073709551616 + x % 18446744073709551616) / 18446744073709551616) = hi (T + x) := by
  obtain ⟨x0, x1⟩ := hx
  unfold hi sg
  have : x / 9223372036854775808 = x / 18446744073709551616 := by omega
  rw [this]
  omega
theorem hi_bd (T : Int) (hT : -2417851639229258349412352 ≤ T ∧ T ≤ 2417851639229258349412352) : -9223372036854775808 ≤ hi T ∧ hi T ≤ 9223372036854775807 := by unfold hi; omega
theorem up_of (T x : Int) (hT : Big T) (hx : I64 x) : Up (lo T) x (hi T) (lo (T + x)) (hi (T + x)) (aS (IntKind.u64.wrap (lo T)) (IntKind.u64.wrap x)) (aC (IntKind.u64.wrap (lo T)) (IntKind.u64.wrap x)) (sg x + aC (IntKind.u64.wrap (lo T)) (IntKind.u64.wrap x)) := by
  have hh := hi_up T x hx
  have hb := hi_bd (T + x) (by unfold Big at hT; unfold I64 at hx; omega)
  obtain ⟨t0, t1⟩ := hT
  obtain ⟨x0, x1⟩ := hx
  have ec : aC (IntKind.u64.wrap (lo T)) (IntKind.u64.wrap x) = (T % 18446744073709551616 + x % 18446744073709551616) / 18446744073709551616 := by
    rw [IntKind.wrap_u64, IntKind.wrap_u64, lo_mod]; rfl
  have es : aS (IntKind.u64.wrap (lo T)) (IntKind.u64.wrap x) = (T % 18446744073709551616 + x % 18446744073709551616) % 18446744073709551616 := by
    rw [IntKind.wrap_u64, IntKind.wrap_u64, lo_mod]; rfl
  constructor
  · intro W
    exact add64 _ _ (by rw [IntKind.wrap_u64]; omega) (by rw [IntKind.wrap_u64]; omega) W
  · rw [es]; unfold lo; rw [IntKind.wrap_i64]; omega
  · rw [ec, IntKind.wrap_i64]; omega
  · rw [ec, IntKind.wrap_i64]; unfold sg; omega
  · rw [ec, hh, IntKind.wrap_i64]; omega
  · exact x0
  · exact x1
theorem hi_down (T x : Int) (hx : I64 x) : hi T - (sg x + dB (T % 18446744073709551616) (x % 18446744073709551616)) = hi (T - x) := by
  obtain ⟨x0, x1⟩ := hx
  unfold hi sg dB
  have : x / 9223372036854775808 = x / 18446744073709551616 := by omega
  rw [this]
  split <;> omega
end Go.Proofs.Ytjpnkecfoealoaa.Vc
