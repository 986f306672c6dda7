import Derived.Test.YtjpnkecfoealoaaVSum
import Derived.Laws.MathBits
import Derived.Lib.BitFns
namespace Go.Proofs.Ytjpnkecfoealoaa.Vc
set_option maxRecDepth 20000
open Go.RowKit
set_option linter.unusedVariables false
theorem mul_hi (a : Int) (h0 : 0 ≤ a) (h1 : a ≤ 9223372036854775807) : (1000 * (a % 4294967296) / 4294967296 / 4294967296 + (1000 * (a % 4294967296) / 4294967296 % 4294967296 + 1000 * (a / 4294967296)) % 18446744073709551616 / 4294967296) % 18446744073709551616 = 1000 * a / 18446744073709551616 := by
  have hc : 0 ≤ a / 4294967296 ∧ a / 4294967296 ≤ 2147483647 := by omega
  have hb : 0 ≤ a % 4294967296 ∧ a % 4294967296 ≤ 4294967295 := by omega
  have ha : a = 4294967296 * (a / 4294967296) + a % 4294967296 := by omega
  generalize a / 4294967296 = c at *
  generalize a % 4294967296 = b at *
  subst ha
  have e2 : 1000 * (4294967296 * c + b) / 18446744073709551616 = 1000 * (4294967296 * c + b) / 4294967296 / 4294967296 := by omega
  have e3 : 1000 * (4294967296 * c + b) / 4294967296 = 1000 * c + 1000 * b / 4294967296 := by omega
  rw [e2, e3]
  have hP : 0 ≤ 1000 * b / 4294967296 ∧ 1000 * b / 4294967296 ≤ 1000 := by omega
  generalize 1000 * b / 4294967296 = P at *
  have e4 : P / 4294967296 = 0 := by omega
  have e5 : P % 4294967296 = P := by omega
  have e6 : (P + 1000 * c) % 18446744073709551616 = P + 1000 * c := by omega
  have e7 : (0 + (P + 1000 * c) / 4294967296) % 18446744073709551616 = (P + 1000 * c) / 4294967296 := by omega
  rw [e4, e5, e6, e7, Int.add_comm P]
theorem mul_any (a : Int) (w : World) (h0 : 0 ≤ a) (h1 : a ≤ 9223372036854775807) : Calls Try.prog 53 #[.int .u64 1000, .int .u64 a] w fun e w' => e = .returned (.tuple #[.int .u64 (1000 * a / 18446744073709551616), .int .u64 (1000 * a % 18446744073709551616)]) ∧ w = w' := by
  have hm := and_low32 a h0 (by omega)
  have hk : bits .and .u64 1000 4294967295 = 1000 := by decide
  go_enter Try.func53, Try.ntmps53
  go_wp2_with fail
  go_ret2
  refine ⟨?_, rfl⟩
  have hr : bits .and .u64 (1000 * (a % 4294967296) / 4294967296) 4294967295 = (1000 * (a % 4294967296) / 4294967296) % 4294967296 := and_low32 _ (by omega) (by omega)
  simp only [hr, IntKind.wrap_u64]
  refine congrArg Ending.returned (congrArg Value.tuple ?_)
  rw [mul_hi a h0 h1]
  rfl
theorem bitLen_n (a : Int) (n : Nat) (hn : n ≤ 62) (h0 : 2 ^ n ≤ a) (h1 : a < 2 * 2 ^ n) : Lib.bitLen a.toNat = n + 1 := by
  obtain ⟨x, rfl⟩ := Int.eq_ofNat_of_zero_le (show 0 ≤ a by have : (0 : Int) < 2 ^ n := Int.pow_pos (by decide); omega)
  have hx0 : 2 ^ n ≤ x := by exact_mod_cast h0
  have hx1 : x < 2 * 2 ^ n := by exact_mod_cast h1
  have hp : 0 < 2 ^ n := Nat.two_pow_pos n
  have hle : 2 ^ n ≤ 2 ^ 62 := Nat.pow_le_pow_right (by decide) hn
  rw [Int.toNat_natCast, Lib.bitLen_shift n x hx0 (by omega)]
  have : x / 2 ^ n = 1 := by
    apply Nat.div_eq_of_lt_le <;> omega
  rw [this]
  rfl
set_option maxRecDepth 100000 in
theorem tab_size : (Lib.len8tab.size : Int) = 256 := by
  have : Lib.len8tab.size = 256 := by decide
  omega
theorem tab_get (y : Int) (h : y.toNat < Lib.len8tab.size) (h0 : 0 ≤ y) (h1 : y ≤ 255) : ((Lib.len8tab[y.toNat]'h).toNat : Int) = Lib.bitLen y.toNat := by
  have e := Lib.len8_of y h0 h1
  rw [← e]
  unfold Lib.len8
  rw [getElem?_pos Lib.len8tab y.toNat h]
  rfl

theorem w48 (x : Nat) (h : x ≤ 8) : wrap64 (48 + wrap64 (x : Int)) = ((48 + x : Nat) : Int) := by unfold wrap64; omega
theorem w56 (x : Nat) (h : x ≤ 8) : wrap64 (56 + wrap64 (x : Int)) = ((56 + x : Nat) : Int) := by unfold wrap64; omega
theorem e48 (a : Int) : (a / 4294967296 / 65536).toNat = a.toNat / 281474976710656 := by omega
theorem e56 (a : Int) : (a / 4294967296 / 65536 / 256).toNat = a.toNat / 72057594037927936 := by omega
theorem len_end1 (a : Int) (h : (a / 4294967296 / 65536).toNat < Lib.len8tab.size) (h0 : 18014398509481984 ≤ a) (h1 : a ≤ 9223372036854775807) (g0 : 0 ≤ a / 4294967296 / 65536) (g1 : a / 4294967296 / 65536 ≤ 255) :
    wrap64 (48 + wrap64 ((Lib.len8tab[(a / 4294967296 / 65536).toNat]'h).toNat : Int)) = (Lib.bitLen a.toNat : Int) := by
  rw [tab_get _ _ g0 g1, w48 _ (Lib.bitLen_le8' _ g0 g1), Lib.bitLen_shift48 a.toNat (by omega) (by omega), e48]
theorem len_end2 (a : Int) (h0 : 18014398509481984 ≤ a) (h1 : a ≤ 9223372036854775807) (g0 : 0 ≤ a / 4294967296 / 65536 / 256) (g1 : a / 4294967296 / 65536 / 256 ≤ 255)
    (g2 : 256 ≤ a / 4294967296 / 65536) : wrap64 (56 + wrap64 (Lib.len8 (a / 4294967296 / 65536 / 256))) = (Lib.bitLen a.toNat : Int) := by
  rw [Lib.len8_of _ g0 g1, w56 _ (Lib.bitLen_le8' _ g0 g1), Lib.bitLen_shift56 a.toNat (by omega) (by omega), e56]
set_option maxRecDepth 100000 in
theorem len_any (a : Int) (w : World) (h0 : 18014398509481984 ≤ a) (h1 : a ≤ 9223372036854775807) : Calls Try.prog 69 #[.int .u64 a] w fun e w' => e = .returned (.int .i64 (Lib.bitLen a.toNat)) ∧ w = w' := by
  have hs := tab_size
  have hx0 : 0 ≤ a / 4294967296 / 65536 / 256 := by omega
  have hx1 : a / 4294967296 / 65536 / 256 < (Lib.len8tab.size : Int) := by omega
  have hx2 : a / 4294967296 / 65536 < (Lib.len8tab.size : Int) ∨ 256 ≤ a / 4294967296 / 65536 := by omega
  have k1 : 4294967296 ≤ a := by omega
  have k2 : 65536 ≤ a / 4294967296 := by omega
  rcases hx2 with hx2 | hx2
  · have hx3 : a / 4294967296 / 65536 < 256 := by omega
    have hx4 : 0 ≤ a / 4294967296 / 65536 := by omega
    clear hs
    go_enter Try.func69, Try.ntmps69
    go_wp2_with fail
    go_ret
    refine ⟨ret_i64 ?_, rfl⟩
    exact len_end1 a _ h0 h1 hx4 (by omega)
  · have hx6 : a / 4294967296 / 65536 / 256 ≤ 255 := by omega
    clear hs
    go_enter Try.func69, Try.ntmps69
    go_wp2_with fail
    go_ret
    refine ⟨ret_i64 ?_, rfl⟩
    exact len_end2 a h0 h1 hx0 hx6 hx2
theorem lz_any (a : Int) (n : Nat) (w : World) (hn : 54 ≤ n) (hn' : n ≤ 62) (h0 : 2 ^ n ≤ a) (h1 : a < 2 * 2 ^ n) : Calls Try.prog 70 #[.int .u64 a] w fun e w' => e = .returned (.int .i64 (63 - n)) ∧ w = w' := by
  have hb := bitLen_n a n hn' h0 h1
  have p0 : (2 : Int) ^ 54 ≤ 2 ^ n := by exact_mod_cast Nat.pow_le_pow_right (by decide : 0 < 2) hn
  have p1 : (2 : Int) ^ n ≤ 2 ^ 62 := by exact_mod_cast Nat.pow_le_pow_right (by decide : 0 < 2) hn'
  have c := Lib.hid fun W : World => len_any a W (by omega) (by omega)
  rw [hb] at c
  clear p0 p1 hb h0 h1
  go_enter Try.func70, Try.ntmps70
  go_wp2_with (go_at_call 69; refine (c.out _).mono ?_; rintro e w' ⟨rfl, rfl⟩)
  go_ret
  refine ⟨ret_i64 ?_, rfl⟩
  first | omega | (unfold wrap64; omega)
end Go.Proofs.Ytjpnkecfoealoaa.Vc
