/-
  The functions of sets of members: what they answer. No condition.
-/
import Derived.Test.YtebacdegjmcnlaaSl
import Derived.Test.YtebacdegjmcnlaaPl
import Derived.Test.YtebacdegjmcnlaaShelf
import Derived.LoopN
import Derived.Deep.RegionLaw
namespace Go.Proofs.Ytebacdegjmcnlaa
set_option maxRecDepth 20000
open Go.RowKit
set_option linter.unusedVariables false

theorem wrap_toInt (x : BitVec 64) : IntKind.i64.wrap ((x.toNat : Nat) : Int) = x.toInt := by
  rw [IntKind.wrap_i64, BitVec.toInt_eq_toNat_cond]
  have := x.isLt
  split <;> omega
theorem bits_land (a b : Int) : bits .and .i64 a b = CP.land a b := wrap_toInt _
theorem bits_lor (a b : Int) : bits .or .i64 a b = CP.lor a b := wrap_toInt _
theorem bits_lxor (a b : Int) : bits .xor .i64 a b = CP.lxor a b := wrap_toInt _
theorem i64_and1 (n : Int) : bits .and .i64 n 1 = n % 2 := by
  have h1 : (BitVec.ofInt 64 1).toNat = 2 ^ 1 - 1 := by decide
  have key : (BitVec.ofInt 64 n &&& BitVec.ofInt 64 1).toNat = (n % ((2 ^ 64 : Nat) : Int)).toNat % 2 ^ 1 := by
    rw [BitVec.toNat_and, BitVec.toNat_ofInt, h1, Nat.and_two_pow_sub_one_eq_mod]
  show IntKind.i64.wrap ((BitVec.ofInt 64 n &&& BitVec.ofInt 64 1).toNat : Nat) = n % 2
  rw [key, IntKind.wrap_i64]
  omega
/-- rows of int, of int64 -/
def DI : CT Int := ⟨fun x => [.int .i64 x], 1, 3, 26, .int .i64 0, 8, fun _ => rfl, fun x u h => by simp only [List.mem_cons, List.not_mem_nil, or_false] at h; rcases h with rfl; rfl, by omega, by omega, by rfl, by omega, by kernel_rfl, Try.underlying26⟩
def DL : CT Int := ⟨fun x => [.int .i64 x], 1, 2, 22, .int .i64 0, 8, fun _ => rfl, fun x u h => by simp only [List.mem_cons, List.not_mem_nil, or_false] at h; rcases h with rfl; rfl, by omega, by omega, by rfl, by omega, by kernel_rfl, Try.underlying22⟩
theorem confMay_any (m : Int) (w : World) : Calls Try.prog 9 #[.int .i64 m] w (RetBelow (.bool (decide (CP.May m))) w) := by
  by_cases h1 : 1 ≤ m
  · by_cases h2 : m ≤ 127
    · have e : decide (CP.May m) = true := decide_eq_true ⟨h1, h2⟩
      rw [e]
      have g1 : decide (1 ≤ m) = true := decide_eq_true h1
      have g2 : decide (m ≤ 127) = true := decide_eq_true h2
      clear h1 h2 e
      go_enter Try.func9, Try.ntmps9
      go_wp2_with fail
      go_ret
      exact ⟨rfl, Below.refl _ _⟩
    · have e : decide (CP.May m) = false := decide_eq_false fun h => h2 h.2
      rw [e]
      have g1 : decide (1 ≤ m) = true := decide_eq_true h1
      have g2 : decide (m ≤ 127) = false := decide_eq_false h2
      clear h1 h2 e
      go_enter Try.func9, Try.ntmps9
      go_wp2_with fail
      go_ret
      exact ⟨rfl, Below.refl _ _⟩
  · have e : decide (CP.May m) = false := decide_eq_false fun h => h1 h.1
    rw [e]
    have g1 : decide (1 ≤ m) = false := decide_eq_false h1
    clear h1 e
    go_enter Try.func9, Try.ntmps9
    go_wp2_with fail
    go_ret
    exact ⟨rfl, Below.refl _ _⟩
end Go.Proofs.Ytebacdegjmcnlaa
