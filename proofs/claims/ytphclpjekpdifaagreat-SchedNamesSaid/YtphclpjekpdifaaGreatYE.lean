import Derived.Test.YtphclpjekpdifaaGreatYD
import Derived.Laws.MathBits
import Derived.Lib.BitFns
import Derived.Lib.AppendStr
import Derived.Laws.AppendOwnNone
import Derived.Deep.CutRange
namespace Go.Proofs.YtphclpjekpdifaaGreat.Vc
set_option maxRecDepth 20000
open Go.RowKit
set_option linter.unusedVariables false
theorem mul_hi (a : Int) (h0 : 0 ≤ a) (h1 : a ≤ 9223372036854775807) : (1000 * (a % 4294967296) / 4294967296 / 4294967296 + (1000 * (a % 4294967296) / 4294967296 % 4294967296 + 1000 * (a / 4294967296)) % 18446744073709551616 / 4294967296) % 18446744073709551616 = 1000 * a / 18446744073709551616 := by
  have hc : 0 ≤ a / 4294967296 ∧ a / 4294967296 ≤ 2147483647 := by omega
  have hb : 0 ≤ a % 4294967296 ∧ a % 4294967296 ≤ 4294967295 := by omega
  have ha : a = 4294967296 * (a / 4294967296) + a % 4294967296 := by omega
  generalize a / 4294967296 = c at *
  generalize a % 4294967296 = b at *
  subst ha
  have e2 : 1000 * (4294967296 * c + b) / 18446744073709551616 = 1000 * (4294967296 * c + b) / 4294967296 / 4294967296 := by omega
  have e3 : 1000 * (4294967296 * c + b) / 4294967296 = 1000 * c + 1000 * b / 4294967296 := by omega
  rw [e2, e3]
  have hP : 0 ≤ 1000 * b / 4294967296 ∧ 1000 * b / 4294967296 ≤ 1000 := by omega
  generalize 1000 * b / 4294967296 = P at *
  have e4 : P / 4294967296 = 0 := by omega
  have e5 : P % 4294967296 = P := by omega
  have e6 : (P + 1000 * c) % 18446744073709551616 = P + 1000 * c := by omega
  have e7 : (0 + (P + 1000 * c) / 4294967296) % 18446744073709551616 = (P + 1000 * c) / 4294967296 := by omega
  rw [e4, e5, e6, e7, Int.add_comm P]
theorem mul_any (a : Int) (w : World) (h0 : 0 ≤ a) (h1 : a ≤ 9223372036854775807) : Calls Tryz.prog 217 #[.int .u64 1000, .int .u64 a] w fun e w' => e = .returned (.tuple #[.int .u64 (1000 * a / 18446744073709551616), .int .u64 (1000 * a % 18446744073709551616)]) ∧ w = w' := by
  have hm := and_low32 a h0 (by omega)
  have hk : bits .and .u64 1000 4294967295 = 1000 := by decide
  go_enter Tryz.func217, Tryz.ntmps217
  go_wp2_with fail
  go_ret2
  refine ⟨?_, rfl⟩
  have hr : bits .and .u64 (1000 * (a % 4294967296) / 4294967296) 4294967295 = (1000 * (a % 4294967296) / 4294967296) % 4294967296 := and_low32 _ (by omega) (by omega)
  simp only [hr, IntKind.wrap_u64]
  refine congrArg Ending.returned (congrArg Value.tuple ?_)
  rw [mul_hi a h0 h1]
  rfl
theorem bitLen_n (a : Int) (n : Nat) (hn : n ≤ 62) (h0 : 2 ^ n ≤ a) (h1 : a < 2 * 2 ^ n) : Lib.bitLen a.toNat = n + 1 := by
  obtain ⟨x, rfl⟩ := Int.eq_ofNat_of_zero_le (show 0 ≤ a by have : (0 : Int) < 2 ^ n := Int.pow_pos (by decide); omega)
  have hx0 : 2 ^ n ≤ x := by exact_mod_cast h0
  have hx1 : x < 2 * 2 ^ n := by exact_mod_cast h1
  have hp : 0 < 2 ^ n := Nat.two_pow_pos n
  have hle : 2 ^ n ≤ 2 ^ 62 := Nat.pow_le_pow_right (by decide) hn
  rw [Int.toNat_natCast, Lib.bitLen_shift n x hx0 (by omega)]
  have : x / 2 ^ n = 1 := by
    apply Nat.div_eq_of_lt_le <;> omega
  rw [this]
  rfl
set_option maxRecDepth 100000 in
theorem tab_size : (Lib.len8tab.size : Int) = 256 := by
  have : Lib.len8tab.size = 256 := by decide
  omega
theorem tab_get (y : Int) (h : y.toNat < Lib.len8tab.size) (h0 : 0 ≤ y) (h1 : y ≤ 255) : ((Lib.len8tab[y.toNat]'h).toNat : Int) = Lib.bitLen y.toNat := by
  have e := Lib.len8_of y h0 h1
  rw [← e]
  unfold Lib.len8
  rw [getElem?_pos Lib.len8tab y.toNat h]
  rfl
theorem w48 (x : Nat) (h : x ≤ 8) : wrap64 (48 + wrap64 (x : Int)) = ((48 + x : Nat) : Int) := by unfold wrap64; omega
theorem w56 (x : Nat) (h : x ≤ 8) : wrap64 (56 + wrap64 (x : Int)) = ((56 + x : Nat) : Int) := by unfold wrap64; omega
theorem e48 (a : Int) : (a / 4294967296 / 65536).toNat = a.toNat / 281474976710656 := by omega
theorem e56 (a : Int) : (a / 4294967296 / 65536 / 256).toNat = a.toNat / 72057594037927936 := by omega
theorem len_end1 (a : Int) (h : (a / 4294967296 / 65536).toNat < Lib.len8tab.size) (h0 : 18014398509481984 ≤ a) (h1 : a ≤ 9223372036854775807) (g0 : 0 ≤ a / 4294967296 / 65536) (g1 : a / 4294967296 / 65536 ≤ 255) :
    wrap64 (48 + wrap64 ((Lib.len8tab[(a / 4294967296 / 65536).toNat]'h).toNat : Int)) = (Lib.bitLen a.toNat : Int) := by
  rw [tab_get _ _ g0 g1, w48 _ (Lib.bitLen_le8' _ g0 g1), Lib.bitLen_shift48 a.toNat (by omega) (by omega), e48]
theorem len_end2 (a : Int) (h0 : 18014398509481984 ≤ a) (h1 : a ≤ 9223372036854775807) (g0 : 0 ≤ a / 4294967296 / 65536 / 256) (g1 : a / 4294967296 / 65536 / 256 ≤ 255)
    (g2 : 256 ≤ a / 4294967296 / 65536) : wrap64 (56 + wrap64 (Lib.len8 (a / 4294967296 / 65536 / 256))) = (Lib.bitLen a.toNat : Int) := by
  rw [Lib.len8_of _ g0 g1, w56 _ (Lib.bitLen_le8' _ g0 g1), Lib.bitLen_shift56 a.toNat (by omega) (by omega), e56]
set_option maxRecDepth 100000 in
theorem len_any (a : Int) (w : World) (h0 : 18014398509481984 ≤ a) (h1 : a ≤ 9223372036854775807) : Calls Tryz.prog 171 #[.int .u64 a] w fun e w' => e = .returned (.int .i64 (Lib.bitLen a.toNat)) ∧ w = w' := by
  have hs := tab_size
  have hx0 : 0 ≤ a / 4294967296 / 65536 / 256 := by omega
  have hx1 : a / 4294967296 / 65536 / 256 < (Lib.len8tab.size : Int) := by omega
  have hx2 : a / 4294967296 / 65536 < (Lib.len8tab.size : Int) ∨ 256 ≤ a / 4294967296 / 65536 := by omega
  have k1 : 4294967296 ≤ a := by omega
  have k2 : 65536 ≤ a / 4294967296 := by omega
  rcases hx2 with hx2 | hx2
  · have hx3 : a / 4294967296 / 65536 < 256 := by omega
    have hx4 : 0 ≤ a / 4294967296 / 65536 := by omega
    clear hs
    go_enter Tryz.func171, Tryz.ntmps171
    go_wp2_with fail
    go_ret
    refine ⟨ret_i64 ?_, rfl⟩
    exact len_end1 a _ h0 h1 hx4 (by omega)
  · have hx6 : a / 4294967296 / 65536 / 256 ≤ 255 := by omega
    clear hs
    go_enter Tryz.func171, Tryz.ntmps171
    go_wp2_with fail
    go_ret
    refine ⟨ret_i64 ?_, rfl⟩
    exact len_end2 a h0 h1 hx0 hx6 hx2
theorem lz_any (a : Int) (n : Nat) (w : World) (hn : 54 ≤ n) (hn' : n ≤ 62) (h0 : 2 ^ n ≤ a) (h1 : a < 2 * 2 ^ n) : Calls Tryz.prog 227 #[.int .u64 a] w fun e w' => e = .returned (.int .i64 (63 - n)) ∧ w = w' := by
  have hb := bitLen_n a n hn' h0 h1
  have p0 : (2 : Int) ^ 54 ≤ 2 ^ n := by exact_mod_cast Nat.pow_le_pow_right (by decide : 0 < 2) hn
  have p1 : (2 : Int) ^ n ≤ 2 ^ 62 := by exact_mod_cast Nat.pow_le_pow_right (by decide : 0 < 2) hn'
  have c := Lib.hid fun W : World => len_any a W (by omega) (by omega)
  rw [hb] at c
  clear p0 p1 hb h0 h1
  go_enter Tryz.func227, Tryz.ntmps227
  go_wp2_with (go_at_call 171; refine (c.out _).mono ?_; rintro e w' ⟨rfl, rfl⟩)
  go_ret
  refine ⟨ret_i64 ?_, rfl⟩
  first | omega | (unfold wrap64; omega)
theorem or_nat (a b : Nat) (s : Nat) (hs : s ≤ 63) (hb : b < 2 ^ s) (ha : a * 2 ^ s < 18446744073709551616) : bits .or .u64 ((a : Int) * 2 ^ s) (b : Int) = (a : Int) * 2 ^ s + b := by
  have e : ((a : Int) * 2 ^ s) = ((a * 2 ^ s : Nat) : Int) := by push_cast; rfl
  rw [e]
  have := u64_or_nat (a * 2 ^ s) b ha (by have : 2 ^ s ≤ 2 ^ 63 := Nat.pow_le_pow_right (by decide) hs; omega)
  rw [this]
  have h2 := Nat.shiftLeft_add_eq_or_of_lt hb a
  rw [Nat.shiftLeft_eq] at h2
  rw [← h2]
  push_cast
  rfl
theorem kn_set (hi lo y n s : Nat) (hs : s + n = 63) (hn : n ≤ 62) (h0 : 2 ^ n ≤ y) (h1 : y < 2 * 2 ^ n) (h3 : hi < y) (h5 : lo < 18446744073709551616) :
    9223372036854775808 ≤ y * 2 ^ s ∧ y * 2 ^ s < 18446744073709551616 ∧ hi * 2 ^ s < 18446744073709551616 ∧ lo / 2 ^ (64 - s) < 2 ^ s ∧
    (hi * 18446744073709551616 + lo) * 2 ^ s = (hi * 2 ^ s + lo / 2 ^ (64 - s)) * 18446744073709551616 + lo * 2 ^ s % 18446744073709551616 ∧
    (hi * 18446744073709551616 + lo) * 2 ^ s / (y * 2 ^ s) = (hi * 18446744073709551616 + lo) / y := by
  have e63 : 2 ^ n * 2 ^ s = 9223372036854775808 := by rw [← Nat.pow_add, show n + s = 63 from by omega]
  have e64 : 2 ^ (64 - s) * 2 ^ s = 18446744073709551616 := by rw [← Nat.pow_add, show 64 - s + s = 64 from by omega]
  have hM : 0 < 2 ^ s := Nat.two_pow_pos s
  have a1 : 2 ^ n * 2 ^ s ≤ y * 2 ^ s := Nat.mul_le_mul_right _ h0
  have a2 : y * 2 ^ s < 2 * 2 ^ n * 2 ^ s := Nat.mul_lt_mul_of_pos_right h1 hM
  have a3 : hi * 2 ^ s < y * 2 ^ s := Nat.mul_lt_mul_of_pos_right h3 hM
  rw [Nat.mul_assoc, e63] at a2
  have a4 : lo / 2 ^ (64 - s) < 2 ^ s := Nat.div_lt_of_lt_mul (by rw [e64]; exact h5)
  have a5 : lo * 2 ^ s / 18446744073709551616 = lo / 2 ^ (64 - s) := by rw [← e64, Nat.mul_div_mul_right _ _ hM]
  refine ⟨by omega, by omega, by omega, a4, ?_, Nat.mul_div_mul_right _ _ hM⟩
  have a6 := Nat.div_add_mod (lo * 2 ^ s) 18446744073709551616
  rw [a5] at a6
  rw [Nat.add_mul, Nat.add_mul, Nat.mul_right_comm, Nat.add_assoc, Nat.mul_comm (lo / 2 ^ (64 - s)), a6]
structure Try1 (N1 v0 P R Q q r : Int) : Prop where
  sum : q * P + r = N1
  le : Q ≤ q
  q1 : q ≤ 4294967295
  r0 : 0 ≤ r
  r1 : r ≤ 4294967295
theorem Try1.first {N1 v0 P R Q : Int} (hP : 2147483648 ≤ P) (hR0 : 0 ≤ R) (hv1 : v0 ≤ 4294967295) (h0 : 0 ≤ N1) (hN : N1 ≤ 4299262263295) (hP2 : P ≤ 4294967295) (hQ0 : 0 ≤ Q) (hQ : Q * (P * 4294967296 + R) ≤ N1 * 4294967296 + v0) : Try1 N1 v0 P R Q (N1 / P) (N1 - N1 / P * P) := by
  have d := Int.mul_ediv_add_emod N1 P
  have m0 := Int.emod_nonneg N1 (show P ≠ 0 by omega)
  have m1 := Int.emod_lt_of_pos N1 (show 0 < P by omega)
  have c := Int.mul_comm P (N1 / P)
  refine ⟨by omega, ?_, ?_, by omega, by omega⟩
  · rw [Int.le_ediv_iff_mul_le (by omega)]
    have h := Int.mul_nonneg hQ0 hR0
    have e : Q * (P * 4294967296 + R) = Q * P * 4294967296 + Q * R := by rw [Int.mul_add, Int.mul_assoc]
    omega
  · have : N1 / P ≤ N1 / 1 := by
      have h1 : N1 / P * P ≤ N1 := by omega
      have h2 : 0 ≤ N1 / P := Int.ediv_nonneg h0 (by omega)
      have h3 : N1 / P * 2147483648 ≤ N1 / P * P := Int.mul_le_mul_of_nonneg_left hP h2
      omega
    have h1 : N1 / P * P ≤ N1 := by omega
    have h2 : 0 ≤ N1 / P := Int.ediv_nonneg h0 (by omega)
    have h3 : N1 / P * 2147483648 ≤ N1 / P * P := Int.mul_le_mul_of_nonneg_left hP h2
    omega
theorem Try1.done {N1 v0 P R Q q r : Int} (h : Try1 N1 v0 P R Q q r) (hP : 0 ≤ P) (hR0 : 0 ≤ R) (hQ : N1 * 4294967296 + v0 < (Q + 1) * (P * 4294967296 + R)) (ht : q * R ≤ 4294967296 * r + v0) : q = Q := by
  have e : q * (P * 4294967296 + R) = q * P * 4294967296 + q * R := by rw [Int.mul_add, Int.mul_assoc]
  have hs := h.sum
  have hl : q * (P * 4294967296 + R) ≤ N1 * 4294967296 + v0 := by omega
  have hle := h.le
  rcases Int.lt_or_le Q q with hq | hq
  · have : (Q + 1) * (P * 4294967296 + R) ≤ q * (P * 4294967296 + R) := Int.mul_le_mul_of_nonneg_right (by omega) (by omega)
    omega
  · omega
theorem Try1.next {N1 v0 P R Q q r : Int} (h : Try1 N1 v0 P R Q q r) (hP : 0 ≤ P) (hR0 : 0 ≤ R) (hQ : Q * (P * 4294967296 + R) ≤ N1 * 4294967296 + v0) (ht : 4294967296 * r + v0 < q * R) : (q - 1) * P + (r + P) = N1 ∧ Q ≤ q - 1 := by
  have e : q * (P * 4294967296 + R) = q * P * 4294967296 + q * R := by rw [Int.mul_add, Int.mul_assoc]
  have hs := h.sum
  have e2 : (q - 1) * P = q * P - P := by rw [Int.sub_mul, Int.one_mul]
  refine ⟨by omega, ?_⟩
  have hle := h.le
  rcases Int.lt_or_le Q q with hq | hq
  · omega
  · have : q * (P * 4294967296 + R) ≤ Q * (P * 4294967296 + R) := Int.mul_le_mul_of_nonneg_right hq (by omega)
    omega
theorem Try1.stop {N1 v0 P R Q q r : Int} (hs : q * P + r = N1) (hle : Q ≤ q) (hP : 0 ≤ P) (hR0 : 0 ≤ R) (hR1 : R ≤ 4294967295) (hq0 : 0 ≤ q) (hq1 : q ≤ 4294967295) (hv : 0 ≤ v0) (hQ : N1 * 4294967296 + v0 < (Q + 1) * (P * 4294967296 + R)) (hr : 4294967296 ≤ r) : q = Q := by
  have hqr : q * R ≤ 4294967295 * 4294967295 := Int.mul_le_mul hq1 hR1 hR0 (by omega)
  have e : q * (P * 4294967296 + R) = q * P * 4294967296 + q * R := by rw [Int.mul_add, Int.mul_assoc]
  have hl : q * (P * 4294967296 + R) ≤ N1 * 4294967296 + v0 := by omega
  rcases Int.lt_or_le Q q with hq | hq
  · have : (Q + 1) * (P * 4294967296 + R) ≤ q * (P * 4294967296 + R) := Int.mul_le_mul_of_nonneg_right (by omega) (by omega)
    omega
  · omega
structure Kit (hi lo y : Int) (s : Nat) (Q Y P R U V v1 v0 N1 q0 S : Int) : Prop where
  hY : IntKind.u64.wrap (y * 2 ^ s) = Y
  hP : Y / 4294967296 = P
  hR : bits .and .u64 Y 4294967295 = R
  hU : bits .or .u64 (IntKind.u64.wrap (hi * 2 ^ s)) (lo / 2 ^ (64 - s)) = U
  hV : IntKind.u64.wrap (lo * 2 ^ s) = V
  hv1 : V / 4294967296 = v1
  hv0 : bits .and .u64 V 4294967295 = v0
  hq1 : U.tdiv P = 0
  hN : U * 4294967296 + v1 = N1
  hq0 : N1.tdiv P = q0
  hS : q0 * P = S
  P0 : 2147483648 ≤ P
  P1 : P ≤ 4294967295
  R0 : 0 ≤ R
  R1 : R ≤ 4294967295
  U0 : 0 ≤ U
  U1 : U ≤ 1000
  a0 : 0 ≤ v1
  a1 : v1 ≤ 4294967295
  b0 : 0 ≤ v0
  b1 : v0 ≤ 4294967295
  try1 : Try1 N1 v0 P R Q q0 (N1 - S)
  lo' : Q * (P * 4294967296 + R) ≤ N1 * 4294967296 + v0
  hi' : N1 * 4294967296 + v0 < (Q + 1) * (P * 4294967296 + R)
  Y0 : 0 ≤ Y
  Y1 : Y ≤ 18446744073709551615
  V0 : 0 ≤ V
  V1 : V ≤ 18446744073709551615
  Q0 : 0 ≤ Q
theorem kit_of (hi lo y n s : Nat) (hs : s + n = 63) (hn : n ≤ 62) (h0 : 2 ^ n ≤ y) (h1 : y < 2 * 2 ^ n) (h3 : hi < y) (h5 : lo < 18446744073709551616) (hq : (hi * 18446744073709551616 + lo) / y ≤ 1000) :
    ∃ Y P R U V v1 v0 N1 q0 S, Kit hi lo y s ((hi * 18446744073709551616 + lo) / y : Nat) Y P R U V v1 v0 N1 q0 S := by
  obtain ⟨a1, a2, a3, a4, a5, a6⟩ := kn_set hi lo y n s hs hn h0 h1 h3 h5
  have hM : 0 < 2 ^ s := Nat.two_pow_pos s
  have hy : 0 < y * 2 ^ s := by omega
  have q1 := Nat.div_mul_le_self ((hi * 18446744073709551616 + lo) * 2 ^ s) (y * 2 ^ s)
  have q2 := Nat.lt_div_mul_add (a := (hi * 18446744073709551616 + lo) * 2 ^ s) hy
  rw [a6] at q1 q2
  have eU := or_nat hi (lo / 2 ^ (64 - s)) s (by omega) a4 a3
  have eY : (((y * 2 ^ s : Nat)) : Int) = (y : Int) * 2 ^ s := by push_cast; rfl
  have eH : (((hi * 2 ^ s : Nat)) : Int) = (hi : Int) * 2 ^ s := by push_cast; rfl
  have eV : (((lo * 2 ^ s : Nat)) : Int) = (lo : Int) * 2 ^ s := by push_cast; rfl
  have eL : (((lo / 2 ^ (64 - s) : Nat)) : Int) = (lo : Int) / 2 ^ (64 - s) := by push_cast; rfl
  have eU' : (((hi * 2 ^ s + lo / 2 ^ (64 - s) : Nat)) : Int) = (hi : Int) * 2 ^ s + ((lo / 2 ^ (64 - s) : Nat) : Int) := by rw [← eH]; omega
  generalize (hi * 18446744073709551616 + lo) / y = Q at *
  rw [a5] at q1 q2
  have hQY : Q * (y * 2 ^ s) ≤ 1000 * (y * 2 ^ s) := Nat.mul_le_mul_right _ hq
  have hVe : IntKind.u64.wrap ((lo : Int) * 2 ^ s) = ((lo * 2 ^ s % 18446744073709551616 : Nat) : Int) := by rw [IntKind.wrap_u64, ← eV]; omega
  have hYe : IntKind.u64.wrap ((y : Int) * 2 ^ s) = ((y * 2 ^ s : Nat) : Int) := by rw [IntKind.wrap_u64, ← eY]; omega
  have hUe : bits .or .u64 (IntKind.u64.wrap ((hi : Int) * 2 ^ s)) ((lo : Int) / 2 ^ (64 - s)) = ((hi * 2 ^ s + lo / 2 ^ (64 - s) : Nat) : Int) := by
    rw [show IntKind.u64.wrap ((hi : Int) * 2 ^ s) = (hi : Int) * 2 ^ s from by rw [IntKind.wrap_u64, ← eH]; omega, ← eL, eU, eU']
  have hVlt : lo * 2 ^ s % 18446744073709551616 < 18446744073709551616 := Nat.mod_lt _ (by decide)
  clear eU eY eH eV eL eU' a5 a6 a4 a3 hs h0 h1
  generalize hi * 2 ^ s + lo / 2 ^ (64 - s) = U at *
  generalize lo * 2 ^ s % 18446744073709551616 = V at *
  generalize y * 2 ^ s = Y at *
  have iq1 : (Q : Int) * (Y : Int) ≤ (U : Int) * 18446744073709551616 + (V : Int) := by have e := Int.natCast_mul Q Y; rw [← e]; omega
  have iq2 : (U : Int) * 18446744073709551616 + (V : Int) < (Q : Int) * (Y : Int) + (Y : Int) := by have e := Int.natCast_mul Q Y; rw [← e]; omega
  have iq3 : ((Q : Int) + 1) * (Y : Int) = (Q : Int) * (Y : Int) + (Y : Int) := by rw [Int.add_mul, Int.one_mul]
  have hU1 : U ≤ 1000 := by omega
  have hP0 : 2147483648 ≤ (Y : Int) / 4294967296 := by omega
  have hP1 : (Y : Int) / 4294967296 ≤ 4294967295 := by omega
  have hYd : (Y : Int) / 4294967296 * 4294967296 + (Y : Int) % 4294967296 = Y := by omega
  have hVd : (V : Int) / 4294967296 * 4294967296 + (V : Int) % 4294967296 = V := by omega
  have l1 : (Q : Int) * ((Y : Int) / 4294967296 * 4294967296 + (Y : Int) % 4294967296) ≤ ((U : Int) * 4294967296 + (V : Int) / 4294967296) * 4294967296 + (V : Int) % 4294967296 := by rw [hYd]; omega
  have l2 : ((U : Int) * 4294967296 + (V : Int) / 4294967296) * 4294967296 + (V : Int) % 4294967296 < ((Q : Int) + 1) * ((Y : Int) / 4294967296 * 4294967296 + (Y : Int) % 4294967296) := by rw [hYd, iq3]; omega
  have t1 := Try1.first (N1 := (U : Int) * 4294967296 + (V : Int) / 4294967296) (v0 := (V : Int) % 4294967296) hP0 (show 0 ≤ (Y : Int) % 4294967296 by omega) (by omega) (by omega) (by omega) hP1 (show 0 ≤ (Q : Int) by omega) l1
  refine ⟨Y, (Y : Int) / 4294967296, (Y : Int) % 4294967296, U, V, (V : Int) / 4294967296, (V : Int) % 4294967296, (U : Int) * 4294967296 + (V : Int) / 4294967296, ((U : Int) * 4294967296 + (V : Int) / 4294967296) / ((Y : Int) / 4294967296), ((U : Int) * 4294967296 + (V : Int) / 4294967296) / ((Y : Int) / 4294967296) * ((Y : Int) / 4294967296), ?_⟩
  refine ⟨hYe, rfl, and_low32 _ (by omega) (by omega), hUe, hVe, rfl, and_low32 _ (by omega) (by omega), ?_, rfl, ?_, rfl, hP0, hP1, by omega, by omega, by omega, by omega, by omega, by omega, by omega, by omega, t1, l1, l2, by omega, by omega, by omega, by omega, by omega⟩
  · rw [Int.tdiv_eq_ediv_of_nonneg (by omega)]
    exact Int.ediv_eq_zero_of_lt (by omega) (by omega)
  · rw [Int.tdiv_eq_ediv_of_nonneg (by omega)]
def DivPost (Q : Int) (w : World) (e : Ending) (w' : World) : Prop := ∃ r : Int, e = .returned (.tuple #[.int .u64 Q, .int .u64 r]) ∧ w = w'
theorem lz_s (a : Int) (n s : Nat) (hs : s + n = 63) (w : World) (hn : 54 ≤ n) (hn' : n ≤ 62) (h0 : 2 ^ n ≤ a) (h1 : a < 2 * 2 ^ n) : Calls Tryz.prog 227 #[.int .u64 a] w fun e w' => e = .returned (.int .i64 (s : Int)) ∧ w = w' := by
  have := lz_any a n w hn hn' h0 h1
  rwa [show (63 : Int) - n = s from by omega] at this
set_option maxRecDepth 100000 in
set_option maxHeartbeats 1000000 in
theorem div_big (hi lo y : Int) (s : Nat) (Q Y P R U V v1 v0 N1 q0 S : Int) (w : World) (K : Kit hi lo y s Q Y P R U V v1 v0 N1 q0 S) (hs : s ≤ 9) (h2 : 0 < hi) (h3 : hi < y) (h4 : 0 ≤ lo) (h5 : lo ≤ 18446744073709551615) (h6 : hi ≤ 999) (y1 : y ≤ 9223372036854775807)
    (c : Hid (∀ W : World, Calls Tryz.prog 227 #[.int .u64 y] W fun e w' => e = .returned (.int .i64 (s : Int)) ∧ W = w')) :
    Calls Tryz.prog 218 #[.int .u64 hi, .int .u64 lo, .int .u64 y] w (DivPost Q w) := by
  have y0 : 0 < y := by omega
  have hyb : decide (y ≤ hi) = false := by simpa using h3
  have hrs : 0 ≤ N1 - S ∧ N1 - S ≤ 4294967295 := ⟨K.try1.r0, K.try1.r1⟩
  obtain ⟨r0, r1⟩ := hrs
  have HK := Lib.hid K
  have w0 : 0 ≤ q0 := by have := K.try1.le; have := K.Q0; omega
  have w1 : q0 ≤ 4294967295 := K.try1.q1
  have w2 : 0 ≤ S := by rw [← K.hS]; exact Int.mul_nonneg w0 (by have := K.P0; omega)
  have w3 : S ≤ 18446744073709551615 := by have := K.hN; have := K.U1; have := K.a1; omega
  obtain ⟨hY, hP, hR, hU, hV, hv1, hv0, hq1, hN, hq0, hS, P0, P1, R0, R1, U0, U1, a0, a1, b0, b1, _, _, _, Y0, Y1, V0, V1, Q0⟩ := K
  have PP : 0 < P := by omega
  clear h3
  go_enter Tryz.func218, Tryz.ntmps218
  go_wp2_with (go_at_call 227; refine (c.out _).mono ?_; rintro e w' ⟨rfl, rfl⟩)
  refine wp_loop_rounds 1 ?_
  rw [rounds_succ]
  go_wp2_with fail
  go_loop [18, 16] (fun a b => ∃ q r : Int, a = .int .u64 q ∧ b = .int .u64 r ∧ Try1 N1 v0 P R Q q r) (fun a _ => (intOf a).toNat)
  case atStart => exact ⟨_, _, rfl, rfl, HK.out.try1⟩
  case round =>
    obtain ⟨q, r, rfl, rfl, tr⟩ := hrel
    have qQ := tr.le
    have q1 := tr.q1
    have t0 := tr.r0
    have t1 := tr.r1
    have g0 : 0 ≤ q := by omega
    have m0 := Int.mul_nonneg g0 R0
    have m1 : q * R ≤ 4294967295 * 4294967295 := Int.mul_le_mul q1 R1 R0 (by omega)
    have HT' : IntKind.u64.wrap (q * R) = q * R := by rw [IntKind.wrap_u64]; omega
    obtain ⟨T, hT⟩ : ∃ T, q * R = T := ⟨_, rfl⟩
    have HT : IntKind.u64.wrap (q * R) = T := HT'.trans hT
    rw [hT] at m0 m1
    clear HT'
    by_cases ht : 4294967296 * r + v0 < T
    · obtain ⟨n1, n2⟩ := tr.next (by omega) R0 HK.out.lo' (by rw [hT]; exact ht)
      have g1 : 1 ≤ q := by omega
      by_cases hb : r + P ≤ 4294967295
      · have TR := Lib.hid (Try1.mk (v0 := v0) (R := R) n1 n2 (by omega) (by omega) hb)
        clear n1 n2 tr
        clear hT
        go_wp2_with fail
        go_round
        case rel => exact ⟨_, _, rfl, rfl, TR.out⟩
        case measure => simp [intOf]; omega
      · have e := Try1.stop n1 n2 (by omega) R0 R1 (by omega) (by omega) b0 HK.out.hi' (by omega)
        have HE := Lib.hid e
        have hb' : 4294967296 ≤ r + P := by omega
        clear n1 n2 tr e hb
        clear hT
        go_wp2_with fail
        go_ret2
        rw [HE.out]
        exact ⟨_, rfl, rfl⟩
    · have e := tr.done (by omega) R0 HK.out.hi' (by rw [hT]; omega)
      subst e
      clear tr
      clear hT
      go_wp2_with fail
      go_ret2
      exact ⟨_, rfl, rfl⟩
def Drawn (v : Value) (w : World) (e : Ending) (w' : World) : Prop := e = .returned v ∧ ∃ n, w' = w.drewN n
def DivQ (Q : Int) (w : World) (e : Ending) (w' : World) : Prop := ∃ r n, e = .returned (.tuple #[.int .u64 Q, .int .u64 r]) ∧ w' = w.drewN n
set_option maxRecDepth 100000 in
theorem div_small (lo y : Int) (w : World) (h4 : 0 ≤ lo) (h5 : lo ≤ 18446744073709551615) (y0 : 0 < y) (y1 : y ≤ 9223372036854775807) :
    Calls Tryz.prog 218 #[.int .u64 0, .int .u64 lo, .int .u64 y] w (DivQ (lo / y) w) := by
  have hq := Int.tdiv_eq_ediv_of_nonneg (b := y) h4
  go_enter Tryz.func218, Tryz.ntmps218
  go_wp2_with fail
  go_quiet (fail)
  go_wp2_with fail
  go_ret2
  have d0 : 0 ≤ lo / y := Int.ediv_nonneg h4 (by omega)
  have d1 : lo / y ≤ lo := Int.ediv_le_self _ h4
  have e : IntKind.u64.wrap (lo / y) = lo / y := by rw [IntKind.wrap_u64]; omega
  rw [e]
  exact ⟨lo % y, nq, rfl, rfl⟩
theorem div_any (a b : Int) (w : World) (a0 : 0 ≤ a) (ab : a ≤ b) (b0 : 0 < b) (b1 : b ≤ 9223372036854775807) :
    Calls Tryz.prog 218 #[.int .u64 (1000 * a / 18446744073709551616), .int .u64 (1000 * a % 18446744073709551616), .int .u64 b] w (DivQ (1000 * a / b) w) := by
  by_cases h : 1000 * a / 18446744073709551616 = 0
  · have := div_small (1000 * a % 18446744073709551616) b w (by omega) (by omega) b0 b1
    rw [h]
    rwa [show 1000 * a % 18446744073709551616 = 1000 * a from by omega] at this ⊢
  · obtain ⟨x, rfl⟩ := Int.eq_ofNat_of_zero_le a0
    obtain ⟨y, rfl⟩ := Int.eq_ofNat_of_zero_le (show 0 ≤ b by omega)
    have hn0 : 2 ^ y.log2 ≤ y := Nat.log2_self_le (by omega)
    have hn1 : y < 2 ^ (y.log2 + 1) := Nat.lt_log2_self
    rw [Nat.pow_succ] at hn1
    have l0 : 54 ≤ y.log2 := (Nat.le_log2 (by omega)).2 (by omega)
    have l1 : y.log2 < 63 := (Nat.log2_lt (by omega)).2 (by omega)
    generalize y.log2 = n at *
    have q : 1000 * x / y ≤ 1000 := Nat.div_le_of_le_mul (by rw [Nat.mul_comm]; exact Nat.mul_le_mul_right _ (by omega))
    have e : (1000 * x / 18446744073709551616) * 18446744073709551616 + 1000 * x % 18446744073709551616 = 1000 * x := by omega
    obtain ⟨Y, P, R, U, V, v1, v0, N1, q0, S, K⟩ := kit_of (1000 * x / 18446744073709551616) (1000 * x % 18446744073709551616) y n (63 - n) (by omega) (by omega) hn0 (by omega) (by omega) (Nat.mod_lt _ (by decide)) (by rw [e]; exact q)
    rw [e] at K
    have e1 : ((1000 * x / 18446744073709551616 : Nat) : Int) = 1000 * (x : Int) / 18446744073709551616 := by omega
    have e2 : ((1000 * x % 18446744073709551616 : Nat) : Int) = 1000 * (x : Int) % 18446744073709551616 := by omega
    have e3 : ((1000 * x / y : Nat) : Int) = 1000 * (x : Int) / y := by
      rw [Int.natCast_ediv, Int.natCast_mul]; rfl
    rw [e1, e2, e3] at K
    have i0 : (2 : Int) ^ n ≤ y := by exact_mod_cast hn0
    have i1 : (y : Int) < 2 * 2 ^ n := by
      have : y < 2 * 2 ^ n := by omega
      exact_mod_cast this
    exact (div_big _ _ _ (63 - n) _ _ _ _ _ _ _ _ _ _ _ w K (by omega) (by omega) (by omega) (by omega) (by omega) (by omega) (by omega) (Lib.hid fun W => lz_s y n (63 - n) (by omega) W l0 (by omega) i0 i1)).mono
      fun e w' ⟨r, h1, h2⟩ => ⟨r, 0, h1, h2.symm⟩
def shr (a b : Int) : Int := if b < a then 1000 else if b = 0 then 0 else 1000 * a / b
theorem shr_bd (a b : Int) (a0 : 0 ≤ a) (b0 : 0 ≤ b) : 0 ≤ shr a b ∧ shr a b ≤ 1000 := by
  unfold shr
  split
  · omega
  · split
    · omega
    · refine ⟨Int.ediv_nonneg (by omega) b0, Int.ediv_le_of_le_mul (by omega) ?_⟩
      rw [Int.mul_comm]
      omega
theorem share1_any (a b : Int) (w : World) (a0 : 0 ≤ a) (a1 : a ≤ 9223372036854775807) (b0 : 0 ≤ b) (b1 : b ≤ 9223372036854775807) : Calls Tryz.prog 215 #[.int .i64 a, .int .i64 b] w (Drawn (.int .i64 (shr a b)) w) := by
  have hbd := shr_bd a b a0 b0
  by_cases h1 : b < a
  · rw [show shr a b = 1000 from by unfold shr; rw [if_pos h1]]
    go_enter Tryz.func215, Tryz.ntmps215
    go_wp2_with fail
    go_ret
    exact ⟨rfl, 0, rfl⟩
  · by_cases h2 : b = 0
    · rw [show shr a b = 0 from by unfold shr; rw [if_neg h1, if_pos h2]]
      subst h2
      have h1' : decide (0 < a) = false := by simpa using h1
      go_enter Tryz.func215, Tryz.ntmps215
      go_wp2_with fail
      go_ret
      exact ⟨rfl, 0, rfl⟩
    · have hs : shr a b = 1000 * a / b := by unfold shr; rw [if_neg h1, if_neg h2]
      rw [hs] at hbd ⊢
      have cm := Lib.hid fun W : World => mul_any a W a0 a1
      have cd := Lib.hid fun W : World => div_any a b W a0 (by omega) (by omega) b1
      have h1' : decide (b < a) = false := by simpa using h1
      have h2' : (b == 0) = false := by simpa using h2
      clear hs
      generalize 1000 * a / 18446744073709551616 = H at *
      generalize 1000 * a % 18446744073709551616 = L at *
      generalize 1000 * a / b = Q at *
      go_enter Tryz.func215, Tryz.ntmps215
      go_wp2_with (go_at_call 217; refine (cm.out _).mono ?_; rintro e w' ⟨rfl, rfl⟩)
      refine (cd.out _).mono ?_
      rintro e w' ⟨r, n, rfl, rfl⟩
      go_wp2_with fail
      go_ret
      exact ⟨rfl, n, rfl⟩
def mx (x y : Int) : Int := if x < y then y else x
theorem mx_fold (x y : Int) : (if x < y then y else x) = mx x y := rfl
def shV (a b c x y z : Int) : Int := mx (mx (mx 0 (shr a x)) (shr b y)) (shr c z)
def shA (a b c x y z : Int) : Int := if fitB 0 0 0 a b c && fitB 0 0 0 x y z then shV a b c x y z else 0
theorem may_iff {a b c : Int} : fitB 0 0 0 a b c = true ↔ 0 ≤ a ∧ 0 ≤ b ∧ 0 ≤ c := by simp [fitB, and_assoc]
set_option maxHeartbeats 1000000 in
theorem share_any (a b c x y z : Int) (w : World) (ba : I64 a) (bb : I64 b) (bc : I64 c) (bx : I64 x) (by' : I64 y) (bz : I64 z) :
    Calls Tryz.prog 208 #[.agg #[.int .i64 a, .int .i64 b, .int .i64 c], .agg #[.int .i64 x, .int .i64 y, .int .i64 z]] w (RetBelow (.int .i64 (shA a b c x y z)) w) := by
  have c1 := Lib.hid fun W : World => may_any a b c W
  have c2 := Lib.hid fun W : World => may_any x y z W
  have K1 := (BK.new w a b c).alloc (.cells #[.int .i64 x, .int .i64 y, .int .i64 z] 28)
  have K2 := BK.new (w.alloc (.cells #[.int .i64 a, .int .i64 b, .int .i64 c] 28)) x y z
  have B0 : Below w.heap.size w ((w.alloc (.cells #[.int .i64 a, .int .i64 b, .int .i64 c] 28)).alloc (.cells #[.int .i64 x, .int .i64 y, .int .i64 z] 28)) := ((Below.refl _ _).alloc (Nat.le_refl _) _).alloc (by simp) _
  simp only [World.size_alloc] at K1 K2
  have K1 := Lib.hid K1
  have K2 := Lib.hid K2
  have B0 := Lib.hid B0
  cases hm1 : fitB 0 0 0 a b c with
  | false =>
    rw [hm1] at c1
    rw [show shA a b c x y z = 0 from by unfold shA; rw [hm1]; rfl]
    go_enter Tryz.func208, Tryz.ntmps208
    go_wp2_with fail
    refine (c1.out _).mono ?_
    rintro _ w1 ⟨rfl, hb⟩
    have B1 := Lib.hid (B0.out.trans (hb.mono B0.out.size))
    clear hb
    go_wp2_with fail
    go_ret
    exact ⟨rfl, B1.out⟩
  | true =>
    cases hm2 : fitB 0 0 0 x y z with
    | false =>
      rw [hm1] at c1
      rw [hm2] at c2
      rw [show shA a b c x y z = 0 from by unfold shA; rw [hm1, hm2]; rfl]
      go_enter Tryz.func208, Tryz.ntmps208
      go_wp2_with fail
      refine (c1.out _).mono ?_
      rintro _ w1 ⟨rfl, hb⟩
      have B1 := Lib.hid (B0.out.trans (hb.mono B0.out.size))
      obtain ⟨d0, d1, d2⟩ := (K2.out.on hb (by simp)).c3
      clear hb
      go_wp2_with fail
      refine (c2.out _).mono ?_
      rintro _ w2 ⟨rfl, hb⟩
      have B2 := Lib.hid (B1.out.trans (hb.mono B1.out.size))
      clear hb
      go_wp2_with fail
      go_ret
      exact ⟨rfl, B2.out⟩
    | true =>
      rw [hm1] at c1
      rw [hm2] at c2
      rw [show shA a b c x y z = shV a b c x y z from by unfold shA; rw [hm1, hm2]; rfl]
      have n1 := may_iff.1 hm1
      have n2 := may_iff.1 hm2
      have s1 := Lib.hid fun W : World => share1_any a x W n1.1 ba.2 n2.1 bx.2
      have s2 := Lib.hid fun W : World => share1_any b y W n1.2.1 bb.2 n2.2.1 by'.2
      have s3 := Lib.hid fun W : World => share1_any c z W n1.2.2 bc.2 n2.2.2 bz.2
      clear n1 n2 ba bb bc bx by' bz
      unfold shV
      generalize shr a x = p at *
      generalize shr b y = q at *
      generalize shr c z = r at *
      go_enter Tryz.func208, Tryz.ntmps208
      go_wp2_with fail
      refine (c1.out _).mono ?_
      rintro _ w1 ⟨rfl, hb⟩
      have B1 := Lib.hid (B0.out.trans (hb.mono B0.out.size))
      have L1 := Lib.hid (K1.out.on hb (by simp; omega))
      have L2 := Lib.hid (K2.out.on hb (by simp))
      obtain ⟨d0, d1, d2⟩ := L2.out.c3
      clear hb
      go_wp2_with fail
      refine (c2.out _).mono ?_
      rintro _ w2 ⟨rfl, hb⟩
      have B2 := Lib.hid (B1.out.trans (hb.mono B1.out.size))
      clear d0 d1 d2
      obtain ⟨e0, e1, e2⟩ := (L1.out.on hb L1.out.lt).c3
      obtain ⟨d0, d1, d2⟩ := (L2.out.on hb L2.out.lt).c3
      clear hb
      go_wp2_with fail
      refine wp_loop_rounds 4 ?_
      rw [rounds_succ]
      go_wp2_with fail
      go_quiet ((go_at_call 215; exact Calls.quiet_of (s1.out _)))
      simp only [mx_fold]
      go_wp2_with fail
      refine rounds_forget (fun W => (C3 W w.heap.size a b c ∧ C3 W (w.heap.size + 1) x y z) ∧ Below w.heap.size w W) ⟨⟨⟨e0, e1, e2⟩, d0, d1, d2⟩, below_drewN B2.out nq⟩ ?_
      clear e0 e1 e2 d0 d1 d2 B2
      rintro w2 ⟨⟨⟨e0, e1, e2⟩, d0, d1, d2⟩, bb⟩
      have B2 := Lib.hid bb
      clear bb
      rw [rounds_succ]
      go_wp2_with fail
      go_quiet ((go_at_call 215; exact Calls.quiet_of (s2.out _)))
      simp only [mx_fold]
      go_wp2_with fail
      refine rounds_forget (fun W => (C3 W w.heap.size a b c ∧ C3 W (w.heap.size + 1) x y z) ∧ Below w.heap.size w W) ⟨⟨⟨e0, e1, e2⟩, d0, d1, d2⟩, below_drewN B2.out nq⟩ ?_
      clear e0 e1 e2 d0 d1 d2 B2
      rintro w2 ⟨⟨⟨e0, e1, e2⟩, d0, d1, d2⟩, bb⟩
      have B2 := Lib.hid bb
      clear bb
      rw [rounds_succ]
      go_wp2_with fail
      go_quiet ((go_at_call 215; exact Calls.quiet_of (s3.out _)))
      simp only [mx_fold]
      go_wp2_with fail
      rw [rounds_succ]
      go_wp2_with fail
      go_ret
      exact ⟨rfl, below_drewN B2.out nq⟩
def vC : List V3 → List Value
  | [] => []
  | v :: L => .int .i64 v.x :: .int .i64 v.y :: .int .i64 v.z :: vC L
theorem vC_length : ∀ L : List V3, (vC L).length = L.length * 3
  | [] => rfl
  | v :: L => by simp [vC, vC_length L]; omega
theorem vC_append : ∀ a b : List V3, vC (a ++ b) = vC a ++ vC b
  | [], b => rfl
  | v :: a, b => by simp [vC, vC_append a b]
theorem vC_oneCell : ∀ L : List V3, ∀ u ∈ vC L, u.oneCell' = true
  | [], u, h => by cases h
  | v :: L, u, h => by
    simp only [vC, List.mem_cons] at h
    rcases h with rfl | rfl | rfl | h
    · rfl
    · rfl
    · rfl
    · exact vC_oneCell L u h
theorem vC_at : ∀ (L : List V3) (j : Nat) (u : Value), (vC L)[j]? = some u → ∃ i v, L[i]? = some v ∧ ((j = i * 3 ∧ u = .int .i64 v.x) ∨ (j = i * 3 + 1 ∧ u = .int .i64 v.y) ∨ (j = i * 3 + 2 ∧ u = .int .i64 v.z))
  | [], j, u, h => by simp [vC] at h
  | v :: L, 0, u, h => by simp [vC] at h; exact ⟨0, v, rfl, .inl ⟨rfl, h.symm⟩⟩
  | v :: L, 1, u, h => by simp [vC] at h; exact ⟨0, v, rfl, .inr (.inl ⟨rfl, h.symm⟩)⟩
  | v :: L, 2, u, h => by simp [vC] at h; exact ⟨0, v, rfl, .inr (.inr ⟨rfl, h.symm⟩)⟩
  | v :: L, j + 3, u, h => by
    simp only [vC, List.getElem?_cons_succ] at h
    obtain ⟨i, v', h1, h2⟩ := vC_at L j u h
    refine ⟨i + 1, v', by simpa using h1, ?_⟩
    rcases h2 with ⟨h2, h3⟩ | ⟨h2, h3⟩ | ⟨h2, h3⟩
    · exact .inl ⟨by omega, h3⟩
    · exact .inr (.inl ⟨by omega, h3⟩)
    · exact .inr (.inr ⟨by omega, h3⟩)
theorem vC_get : ∀ (L : List V3) (i : Nat) (v : V3), L[i]? = some v → (vC L)[i * 3]? = some (.int .i64 v.x) ∧ (vC L)[i * 3 + 1]? = some (.int .i64 v.y) ∧ (vC L)[i * 3 + 2]? = some (.int .i64 v.z)
  | [], i, v, h => by simp at h
  | v :: L, 0, v', h => by simp at h; subst h; simp [vC]
  | v :: L, i + 1, v', h => by
    simp only [List.getElem?_cons_succ] at h
    obtain ⟨h1, h2, h3⟩ := vC_get L i v' h
    rw [show (i + 1) * 3 = i * 3 + 3 from by omega]
    simp only [vC]
    exact ⟨by simpa using h1, by simpa using h2, by simpa using h3⟩
theorem info23 : (Tryz.prog.info? 28).map (fun i => (i.zero, i.size, i.bytes)) = some (some (.agg #[.int .i64 0, .int .i64 0, .int .i64 0]), 3, 24) := by kernel_rfl
def OwnV (w : World) (base : Nat) (v : Value) (L : List V3) : Prop := w.ownsRow base 28 3 v L.length (vC L)
theorem OwnV.new (w : World) : OwnV (w.alloc (.cells #[] 28)) w.heap.size (.slice (some ⟨w.heap.size, 0, none⟩) 0 0) [] := World.ownsRow_made w #[] 0 (Nat.le_refl _) (by simp [maxLen]) (by simp)
theorem OwnV.below {w w' : World} {base : Nat} {v : Value} {L : List V3} (h : OwnV w base v L) (hb : Below w.heap.size w w') : OwnV w' base v L := by
  refine ⟨h.1, ?_⟩
  rcases h.2 with hn | ⟨g, cap, cur, rfl, hg, hgg, r⟩
  · exact .inl hn
  · exact .inr ⟨g, cap, cur, rfl, hg, by rw [hb.block g (Array.getElem?_eq_some_iff.1 hgg).1]; exact hgg, r⟩
theorem OwnV.form {w : World} {base : Nat} {v : Value} {L : List V3} (h : OwnV w base v L) : ∃ A cap, v = .slice A L.length cap ∧ VecsAt w w.heap.size A L ∧ L.length ≤ cap ∧ cap ≤ 9223372036854775807 := by
  have h0 := h
  rcases h.2 with ⟨rfl, hn⟩ | ⟨g, cap, cur, rfl, hb, hh, hc, hm, _⟩
  · have : L = [] := List.eq_nil_of_length_eq_zero hn
    subst this
    exact ⟨none, 0, rfl, fun h => absurd rfl h, by simp, by omega⟩
  · refine ⟨some ⟨g, 0, none⟩, cap, rfl, fun hne => ⟨g, 0, rfl, (Array.getElem?_eq_some_iff.1 hh).1, fun j u hu => ?_⟩, hc, by simp only [maxLen] at hm; omega⟩
    obtain ⟨e1, e2, e3⟩ := vC_get L j u hu
    have cell : ∀ k x, (vC L)[k]? = some x → w.cell? ⟨g, 0 + k, none⟩ = some x := fun k x hx => by
      have := h0.cells (g := g) rfl k x hx
      unfold Addr.add at this
      split at this
      · subst k; simpa using this
      · simpa using this
    exact ⟨cell _ _ e1, by have := cell _ _ e2; rwa [← Nat.add_assoc] at this, by have := cell _ _ e3; rwa [← Nat.add_assoc] at this⟩
theorem wp_appV {ops : Array Oper} {rest : List Oper} {o : Oper} {a : Act} {Q : Exit → Act → World → Prop} {w : World} (hgd : o.guard = none) (s x : Operand)
    (ho : o.op = .call { callee := .builtin .append, args := #[s, x], argTypes := #[106, 106] })
    (base : Nat) (v : Value) (L : List V3) (hs : a.eval s = v) (hown : OwnV w base v L) (A : Option Addr) (n c B : Nat) (bs : List V3) (hx : a.eval x = .slice A n c) (hA : A = none → c = 0) (hb : VecsAt w B A bs) (hn : bs.length = n) (hnc : n ≤ c)
    (hlen : L.length + n ≤ 1000000) (hbase : base ≤ w.heap.size)
    (h : ∀ v' w', OwnV w' base v' (L ++ bs) → Below base w w' → wpList Tryz.prog ops Q rest (a.put o.dst v') w') : wpList Tryz.prog ops Q (o :: rest) a w := by
  obtain ⟨i5, hi5, hz0, hz1, hz2⟩ := info_parts info23
  cases A with
  | none =>
    have hc0 := hA rfl
    subst hc0
    obtain rfl : n = 0 := by omega
    have hbs : bs = [] := List.eq_nil_of_length_eq_zero hn
    subst hbs
    refine wpList_append_own_none hgd s x 106 ho base 28 i5 3 Tryz.underlying106 hi5 v L.length (vC L) hs hown hx (h v w ?_ (Below.refl _ _))
    rw [List.append_nil]; exact hown
  | some ad =>
    refine wpList_append_own w hgd s x 106 ho base 28 i5 _ 3 24 Tryz.underlying106 hi5 hz0 hz1 hz2 rfl (by omega) v L.length (vC L) hs hown ad n c (vC bs) hx (by rw [vC_length, hn]) ?_ (vC_oneCell _) (by simp only [maxLen]; omega) (by omega) hbase ?_
    · intro j u hu
      have hne : bs ≠ [] := fun e => by rw [e] at hu; simp [vC] at hu
      obtain ⟨b, off, h1, _, h3⟩ := hb hne
      injection h1 with h1
      subst h1
      obtain ⟨i, y, hy, hcase⟩ := vC_at bs j u hu
      obtain ⟨e1, e2, e3⟩ := h3 i y hy
      have ea : ∀ q, (Addr.mk b off none).add q = ⟨b, off + q, none⟩ := fun q => by
        unfold Addr.add
        split
        · subst q; rfl
        · rfl
      rw [ea]
      rcases hcase with ⟨rfl, rfl⟩ | ⟨rfl, rfl⟩ | ⟨rfl, rfl⟩
      · exact e1
      · exact e2
      · exact e3
    · intro v' w' h2 h3 _
      refine h v' w' ?_ ((Below.refl _ _).grown h3 hbase fun k hk => (hown.lt k hk).1)
      unfold OwnV
      rw [vC_append, List.length_append, hn]
      exact h2
theorem VecsAt.take {w : World} {B : Nat} {A : Option Addr} {L : List V3} (h : VecsAt w B A L) (n : Nat) : VecsAt w B A (L.take n) := fun hne => by
  obtain ⟨b, off, h1, h2, h3⟩ := h (fun e => hne (by rw [e]; simp))
  refine ⟨b, off, h1, h2, fun j u hu => h3 j u ?_⟩
  rw [List.getElem?_take] at hu
  split at hu
  · exact hu
  · cases hu
theorem VecsAt.drop' {w : World} {B : Nat} {A : Option Addr} {L : List V3} (h : VecsAt w B A L) (n : Nat) : VecsAt w B (A.map (·.add (n * 3))) (L.drop n) := fun hne => by
  obtain ⟨b, off, rfl, h2, h3⟩ := h (fun e => hne (by rw [e]; simp))
  refine ⟨b, off + n * 3, ?_, h2, fun j u hu => ?_⟩
  · simp only [Option.map_some, Addr.add]
    split
    · rename_i e; rw [e]; rfl
    · rfl
  · rw [List.getElem?_drop] at hu
    have := h3 (n + j) u hu
    rwa [Nat.add_mul, ← Nat.add_assoc] at this
end Go.Proofs.YtphclpjekpdifaaGreat.Vc
namespace Go.Proofs.YtphclpjekpdifaaGreat.Vc.Pd
set_option maxRecDepth 20000
set_option linter.unusedVariables false
def V (f : Nat → Nat) : Nat → Nat
  | 0 => 0
  | n + 1 => V f n + f n * 10 ^ n
def dg (D : List Nat) (i : Nat) : Nat := D.getD i 0
def val (D : List Nat) : Nat := V (dg D) D.length
def Dig (D : List Nat) : Prop := ∀ d ∈ D, d < 10
theorem dg_lt {D : List Nat} (h : Dig D) (i : Nat) : dg D i < 10 := by
  unfold dg
  rw [List.getD_eq_getElem?_getD]
  cases e : D[i]? with
  | none => simp
  | some d => simpa using h d (List.mem_of_getElem? e)
theorem dg_ge {D : List Nat} {i : Nat} (h : D.length ≤ i) : dg D i = 0 := by
  unfold dg
  rw [List.getD_eq_getElem?_getD, List.getElem?_eq_none h]
  rfl
theorem dg_at {D : List Nat} {i : Nat} (h : i < D.length) : dg D i = D[i] := by
  unfold dg
  rw [List.getD_eq_getElem?_getD, List.getElem?_eq_getElem h]
  rfl
theorem V_ext {f g : Nat → Nat} : ∀ {n : Nat}, (∀ i, i < n → f i = g i) → V f n = V g n
  | 0, _ => rfl
  | n + 1, h => by
    unfold V
    rw [V_ext fun i hi => h i (by omega), h n (by omega)]
theorem V_lt {f : Nat → Nat} : ∀ {n : Nat}, (∀ i, i < n → f i < 10) → V f n < 10 ^ n
  | 0, _ => by simp [V]
  | n + 1, h => by
    have h1 := V_lt (n := n) fun i hi => h i (by omega)
    have h2 := h n (by omega)
    unfold V
    rw [Nat.pow_succ]
    have h3 : f n * 10 ^ n ≤ 9 * 10 ^ n := Nat.mul_le_mul_right _ (by omega)
    omega
theorem V_tail {f : Nat → Nat} {n : Nat} (h : ∀ i, n ≤ i → f i = 0) : ∀ k, V f (n + k) = V f n
  | 0 => rfl
  | k + 1 => by
    rw [← Nat.add_assoc]
    show V f (n + k) + f (n + k) * 10 ^ (n + k) = V f n
    rw [V_tail h k, h (n + k) (by omega)]
    simp
theorem val_V {D : List Nat} {n : Nat} (h : D.length ≤ n) : V (dg D) n = val D := by
  obtain ⟨k, rfl⟩ := Nat.exists_eq_add_of_le h
  exact V_tail (fun i hi => dg_ge hi) k
theorem val_snoc (D : List Nat) (d : Nat) : val (D ++ [d]) = val D + d * 10 ^ D.length := by
  unfold val
  rw [List.length_append]
  show V _ D.length + dg (D ++ [d]) D.length * 10 ^ D.length = _
  have h1 : dg (D ++ [d]) D.length = d := by simp [dg]
  have h2 : V (dg (D ++ [d])) D.length = V (dg D) D.length := V_ext fun i hi => by
    simp only [dg, List.getD_eq_getElem?_getD]
    rw [List.getElem?_append_left hi]
  rw [h1, h2]
theorem Dig_snoc {D : List Nat} {d : Nat} (h : Dig D) (hd : d < 10) : Dig (D ++ [d]) := by
  intro x hx
  rcases List.mem_append.1 hx with h1 | h1
  · exact h x h1
  · simp at h1; omega
theorem Dig_take {D : List Nat} (h : Dig D) (n : Nat) : Dig (D.take n) := fun d hd => h d (List.mem_of_mem_take hd)
theorem val_cut {D : List Nat} {k : Nat} (h : D.length = k + 1) (h0 : dg D k = 0) : val (D.take k) = val D := by
  have e : D = D.take k ++ [D[k]] := by
    conv => lhs; rw [← List.take_length (l := D), h]
    exact List.take_succ_eq_append_getElem (by omega)
  have h1 : D[k] = 0 := by rw [← dg_at]; exact h0
  conv => rhs; rw [e, val_snoc, h1]
  simp
theorem lt_top {f g : Nat → Nat} {i : Nat} : ∀ {n : Nat}, (∀ j, j < n → f j < 10) → (∀ j, i < j → j < n → f j = g j) → i < n → f i < g i → V f n < V g n
  | 0, _, _, h, _ => by omega
  | n + 1, hf, he, hi, hl => by
    rcases Nat.lt_or_ge i n with h | h
    · have ih := lt_top (n := n) (fun j hj => hf j (by omega)) (fun j h1 h2 => he j h1 (by omega)) h hl
      unfold V
      rw [he n h (by omega)]
      omega
    · have e : i = n := by omega
      subst e
      have h1 := V_lt (n := i) fun j hj => hf j (by omega)
      unfold V
      have h2 : (f i + 1) * 10 ^ i ≤ g i * 10 ^ i := Nat.mul_le_mul_right _ hl
      rw [Nat.add_mul, Nat.one_mul] at h2
      omega
theorem plus_step (A B O c a b o c' p : Nat) (h : O + c * p = A + B) (hs : o + 10 * c' = a + b + c) : O + o * p + c' * (p * 10) = (A + a * p) + (B + b * p) := by
  have e : (o + 10 * c') * p = (a + b + c) * p := by rw [hs]
  simp only [Nat.add_mul] at e
  have e2 : c' * (p * 10) = 10 * c' * p := by rw [Nat.mul_comm 10 c', Nat.mul_assoc, Nat.mul_comm p 10]
  omega
theorem minus_step (A B O c a b o c' p : Nat) (h : O + B = A + c * p) (hs : o + b + c = a + 10 * c') : O + o * p + (B + b * p) = (A + a * p) + c' * (p * 10) := by
  have e : (o + b + c) * p = (a + 10 * c') * p := by rw [hs]
  simp only [Nat.add_mul] at e
  have e2 : c' * (p * 10) = 10 * c' * p := by rw [Nat.mul_comm 10 c', Nat.mul_assoc, Nat.mul_comm p 10]
  omega
def Pinv (minus : Bool) (a b O : List Nat) (c i : Nat) : Prop :=
  O.length = i ∧ Dig O ∧ c ≤ 1 ∧ (if minus then val O + V (dg b) i = V (dg a) i + c * 10 ^ i else val O + c * 10 ^ i = V (dg a) i + V (dg b) i)
theorem Pinv.zero (minus : Bool) (a b : List Nat) : Pinv minus a b [] 0 0 := by
  refine ⟨rfl, by simp [Dig], by omega, ?_⟩
  cases minus <;> simp [val, V]
theorem Pinv.plus {a b O : List Nat} {c i : Nat} (h : Pinv false a b O c i) (o c' : Nat) (ho : o < 10) (hc : c' ≤ 1) (hs : o + 10 * c' = dg a i + dg b i + c) : Pinv false a b (O ++ [o]) c' (i + 1) := by
  obtain ⟨h1, h2, h3, h4⟩ := h
  refine ⟨by simp [h1], Dig_snoc h2 ho, hc, ?_⟩
  simp only [Bool.false_eq_true, if_false] at h4 ⊢
  rw [val_snoc, h1, Nat.pow_succ]
  exact plus_step _ _ _ _ _ _ _ _ _ h4 hs
theorem Pinv.minus {a b O : List Nat} {c i : Nat} (h : Pinv true a b O c i) (o c' : Nat) (ho : o < 10) (hc : c' ≤ 1) (hs : o + dg b i + c = dg a i + 10 * c') : Pinv true a b (O ++ [o]) c' (i + 1) := by
  obtain ⟨h1, h2, h3, h4⟩ := h
  refine ⟨by simp [h1], Dig_snoc h2 ho, hc, ?_⟩
  simp only [if_true] at h4 ⊢
  rw [val_snoc, h1, Nat.pow_succ]
  exact minus_step _ _ _ _ _ _ _ _ _ h4 hs
theorem Pinv.end_plus {a b O : List Nat} {c n : Nat} (ha : a.length ≤ n) (hb : b.length ≤ n) (da : Dig a) (db : Dig b) (h : Pinv false a b O c (n + 1)) : val O = val a + val b := by
  obtain ⟨h1, h2, h3, h4⟩ := h
  simp only [Bool.false_eq_true, if_false] at h4
  rw [val_V (D := a) (by omega), val_V (D := b) (by omega)] at h4
  have la : val a < 10 ^ n := by rw [← val_V ha]; exact V_lt fun i _ => dg_lt da i
  have lb : val b < 10 ^ n := by rw [← val_V hb]; exact V_lt fun i _ => dg_lt db i
  have : c = 0 := by
    rcases Nat.eq_zero_or_pos c with h | h
    · exact h
    · have : c = 1 := by omega
      subst this
      rw [Nat.pow_succ] at h4
      omega
  subst this
  omega
theorem Pinv.end_minus {a b O : List Nat} {c n : Nat} (ha : a.length ≤ n) (hb : b.length ≤ n) (hle : val b ≤ val a) (h : Pinv true a b O c (n + 1)) : val O = val a - val b := by
  obtain ⟨h1, h2, h3, h4⟩ := h
  simp only [if_true] at h4
  rw [val_V (D := a) (by omega), val_V (D := b) (by omega)] at h4
  have lo : val O < 10 ^ (n + 1) := by
    unfold val
    rw [h1]
    exact V_lt fun i _ => dg_lt h2 i
  have : c = 0 := by
    rcases Nat.eq_zero_or_pos c with h | h
    · exact h
    · have : c = 1 := by omega
      subst this
      omega
  subst this
  omega
theorem less_yes {a b : List Nat} {n i : Nat} (ha : a.length ≤ n) (hb : b.length ≤ n) (da : Dig a) (db : Dig b) (hi : i < n) (he : ∀ j, i < j → j < n → dg a j = dg b j) (hl : dg a i < dg b i) : val a < val b := by
  rw [← val_V ha, ← val_V hb]
  exact lt_top (fun j _ => dg_lt da j) he hi hl
theorem less_same {a b : List Nat} {n : Nat} (ha : a.length ≤ n) (hb : b.length ≤ n) (he : ∀ j, j < n → dg a j = dg b j) : val a = val b := by
  rw [← val_V ha, ← val_V hb]
  exact V_ext he
theorem horner {D : List Nat} {k m : Nat} (h : val D = V (dg D) (k + 1) + m * 10 ^ (k + 1)) : val D = V (dg D) k + (m * 10 + dg D k) * 10 ^ k := by
  rw [h]
  show V (dg D) k + dg D k * 10 ^ k + m * 10 ^ (k + 1) = _
  rw [Nat.pow_succ, Nat.add_mul, Nat.mul_assoc m 10, Nat.mul_comm 10 (10 ^ k)]
  omega
theorem horner_le {D : List Nat} {k m : Nat} (h : val D = V (dg D) k + m * 10 ^ k) : m ≤ val D := by
  have : m * 1 ≤ m * 10 ^ k := Nat.mul_le_mul_left _ (Nat.pow_pos (by decide))
  omega
theorem of_step {D : List Nat} {m N : Nat} (h : val D + m * 10 ^ D.length = N) : val (D ++ [m % 10]) + m / 10 * 10 ^ (D ++ [m % 10]).length = N := by
  rw [val_snoc, List.length_append]
  show val D + m % 10 * 10 ^ D.length + m / 10 * 10 ^ (D.length + 1) = N
  have e := Nat.div_add_mod m 10
  have e2 : m * 10 ^ D.length = (10 * (m / 10) + m % 10) * 10 ^ D.length := by rw [e]
  rw [Nat.add_mul, Nat.mul_comm 10, Nat.mul_assoc] at e2
  rw [Nat.pow_succ, Nat.mul_comm (10 ^ D.length) 10]
  omega
end Go.Proofs.YtphclpjekpdifaaGreat.Vc.Pd
namespace Go.Proofs.YtphclpjekpdifaaGreat.Vc
set_option maxRecDepth 20000
open Go.RowKit
set_option linter.unusedVariables false
def dC (l : List Nat) : List Value := l.map fun (b : Nat) => Value.int .i64 (b : Int)
theorem dC_length (l : List Nat) : (dC l).length = l.length := by simp [dC]
theorem dC_append (a b : List Nat) : dC (a ++ b) = dC a ++ dC b := by simp [dC]
theorem dC_oneCell (l : List Nat) : ∀ u ∈ dC l, u.oneCell' = true := by
  intro u hu; simp only [dC, List.mem_map] at hu; obtain ⟨b, _, rfl⟩ := hu; rfl
theorem info3 : (Tryz.prog.info? 3).map (fun i => (i.zero, i.size, i.bytes)) = some (some (.int .i64 0), 1, 8) := by kernel_rfl
def OwnD (w : World) (base : Nat) (v : Value) (l : List Nat) : Prop := w.ownsRow base 3 1 v l.length (dC l)
theorem OwnD.below {w w' : World} {base : Nat} {v : Value} {l : List Nat} (h : OwnD w base v l) (hb : Below w.heap.size w w') : OwnD w' base v l := by
  refine ⟨h.1, ?_⟩
  rcases h.2 with hn | ⟨g, cap, cur, rfl, hg, hgg, r⟩
  · exact .inl hn
  · exact .inr ⟨g, cap, cur, rfl, hg, by rw [hb.block g (Array.getElem?_eq_some_iff.1 hgg).1]; exact hgg, r⟩
theorem OwnD.nil (w : World) (base : Nat) : OwnD w base (.slice none 0 0) [] := ⟨rfl, .inl ⟨rfl, rfl⟩⟩
theorem OwnD.new (w : World) : OwnD (w.alloc (.cells #[] 3)) w.heap.size (.slice (some ⟨w.heap.size, 0, none⟩) 0 0) [] := World.ownsRow_made w #[] 0 (Nat.le_refl _) (by simp [maxLen]) (by simp)
theorem OwnD.mono {w : World} {base base' : Nat} {v : Value} {l : List Nat} (h : OwnD w base v l) (hb : base' ≤ base) : OwnD w base' v l := by
  refine ⟨h.1, ?_⟩
  rcases h.2 with hn | ⟨g, cap, cur, rfl, hg, r⟩
  · exact .inl hn
  · exact .inr ⟨g, cap, cur, rfl, by omega, r⟩
def DigsAt (w : World) (B : Nat) (A : Option Addr) (ds : List Nat) : Prop :=
  ds ≠ [] → ∃ b off, A = some ⟨b, off, none⟩ ∧ b < B ∧ ∀ (j u : Nat), ds[j]? = some u → w.cell? ⟨b, off + j, none⟩ = some (.int .i64 (u : Int))
theorem DigsAt.on {w w' : World} {A : Option Addr} {ds : List Nat} (h : DigsAt w w.heap.size A ds) (hb : Below w.heap.size w w') : DigsAt w' w'.heap.size A ds := fun hne => by
  obtain ⟨b, off, h1, h2, h3⟩ := h hne
  exact ⟨b, off, h1, by have := hb.size; omega, fun j u hu => (hb.cell (p := ⟨b, _, none⟩) h2).trans (h3 j u hu)⟩
theorem DigsAt.nil (w : World) (B : Nat) (A : Option Addr) : DigsAt w B A [] := fun h => absurd rfl h
theorem DigsAt.take {w : World} {B : Nat} {A : Option Addr} {ds : List Nat} (h : DigsAt w B A ds) (n : Nat) : DigsAt w B A (ds.take n) := fun hne => by
  obtain ⟨b, off, h1, h2, h3⟩ := h (fun e => hne (by rw [e]; simp))
  refine ⟨b, off, h1, h2, fun j u hu => h3 j u ?_⟩
  rw [List.getElem?_take] at hu
  split at hu
  · exact hu
  · cases hu
theorem OwnD.form {w : World} {base : Nat} {v : Value} {l : List Nat} (h : OwnD w base v l) : ∃ A cap, v = .slice A l.length cap ∧ DigsAt w w.heap.size A l ∧ l.length ≤ cap ∧ cap ≤ 9223372036854775807 ∧ (A = none → cap = 0) := by
  have h0 := h
  rcases h.2 with ⟨rfl, hn⟩ | ⟨g, cap, cur, rfl, hb, hh, hc, hm, _⟩
  · have : l = [] := List.eq_nil_of_length_eq_zero hn
    subst this
    exact ⟨none, 0, rfl, DigsAt.nil _ _ _, by simp, by omega, fun _ => rfl⟩
  · refine ⟨some ⟨g, 0, none⟩, cap, rfl, fun hne => ⟨g, 0, rfl, (Array.getElem?_eq_some_iff.1 hh).1, fun j u hu => ?_⟩, hc, by simp only [maxLen] at hm; omega, fun h => by cases h⟩
    have := h0.cells (g := g) rfl j (.int .i64 (u : Int)) (by simp [dC, hu])
    unfold Addr.add at this
    split at this
    · subst j; simpa using this
    · simpa using this
theorem digs_new (w : World) (ds : List Nat) : DigsAt (w.alloc (.cells (dC ds).toArray 3)) (w.alloc (.cells (dC ds).toArray 3)).heap.size (some ⟨w.heap.size, 0, none⟩) ds := fun _ =>
  ⟨w.heap.size, 0, rfl, by simp, fun j u hu => by
    rw [Nat.zero_add, cell_of_row _ _ j _ _ _ (heap_alloc_new w _)]
    simp [dC, hu]⟩
theorem wp_appD {ops : Array Oper} {rest : List Oper} {o : Oper} {a : Act} {Q : Exit → Act → World → Prop} {w : World} (hgd : o.guard = none) (s x : Operand)
    (ho : o.op = .call { callee := .builtin .append, args := #[s, x], argTypes := #[162, 162] })
    (base : Nat) (v : Value) (l : List Nat) (hs : a.eval s = v) (hown : OwnD w base v l) (A : Option Addr) (n c B : Nat) (bs : List Nat) (hx : a.eval x = .slice A n c) (hA : A = none → c = 0) (hb : DigsAt w B A bs) (hn : bs.length = n) (hnc : n ≤ c)
    (hlen : l.length + n ≤ 1000000) (hbase : base ≤ w.heap.size)
    (h : ∀ v' w', OwnD w' base v' (l ++ bs) → Below base w w' → wpList Tryz.prog ops Q rest (a.put o.dst v') w') : wpList Tryz.prog ops Q (o :: rest) a w := by
  obtain ⟨i5, hi5, hz0, hz1, hz2⟩ := info_parts info3
  cases A with
  | none =>
    have hc0 := hA rfl
    subst hc0
    obtain rfl : n = 0 := by omega
    have hbs : bs = [] := List.eq_nil_of_length_eq_zero hn
    subst hbs
    refine wpList_append_own_none hgd s x 162 ho base 3 i5 1 Tryz.underlying162 hi5 v l.length (dC l) hs hown hx (h v w ?_ (Below.refl _ _))
    rw [List.append_nil]; exact hown
  | some ad =>
    refine wpList_append_own w hgd s x 162 ho base 3 i5 _ 1 8 Tryz.underlying162 hi5 hz0 hz1 hz2 rfl (by omega) v l.length (dC l) hs hown ad n c (dC bs) hx (by rw [dC_length]; omega) ?_ (dC_oneCell _) (by simp only [maxLen]; omega) (by omega) hbase ?_
    · intro j u hu
      have hne : bs ≠ [] := fun e => by rw [e] at hu; simp [dC] at hu
      obtain ⟨b, off, h1, _, h3⟩ := hb hne
      injection h1 with h1
      subst h1
      simp only [dC, List.getElem?_map, Option.map_eq_some_iff] at hu
      obtain ⟨y, hy, rfl⟩ := hu
      have := h3 j y hy
      unfold Addr.add
      split
      · subst j; simpa using this
      · exact this
    · intro v' w' h2 h3 _
      refine h v' w' ?_ ((Below.refl _ _).grown h3 hbase fun k hk => (hown.lt k hk).1)
      unfold OwnD
      rw [dC_append, List.length_append, hn]
      exact h2
theorem digit_any (D : List Nat) (A : Option Addr) (n cap i : Nat) (w : World) (hb : DigsAt w w.heap.size A D) (hn : D.length = n) (hl : n ≤ 1000000) (hi : i ≤ 1000000) :
    Calls Tryz.prog 173 #[.slice A n cap, .int .i64 (i : Int)] w fun e w' => e = .returned (.int .i64 (Pd.dg D i : Nat)) ∧ w = w' := by
  have HN := Lib.hid hn
  by_cases hlt : i < n
  · have hil : i < D.length := by rw [HN.out]; exact hlt
    obtain ⟨b, off, rfl, hb1, hb2⟩ := hb (fun e => by rw [e] at hil; simp at hil)
    have hc := hb2 i D[i] (List.getElem?_eq_getElem hil)
    rw [show Pd.dg D i = D[i] from Pd.dg_at hil]
    generalize D[i] = d at *
    have h1 : (i : Int) < n := by omega
    clear hb2 hn hil
    go_enter Tryz.func173, Tryz.ntmps173
    go_wp2_with fail
    go_ret
    exact ⟨rfl, rfl⟩
  · rw [show Pd.dg D i = 0 from Pd.dg_ge (by rw [HN.out]; omega)]
    have hd : decide (i < n) = false := by simpa using hlt
    clear hn hb
    go_enter Tryz.func173, Tryz.ntmps173
    go_wp2_with fail
    go_ret
    exact ⟨rfl, rfl⟩
end Go.Proofs.YtphclpjekpdifaaGreat.Vc
