import Derived.Test.YtjpnkecfoealoaaVDiv
namespace Go.Proofs.Ytjpnkecfoealoaa.Vc
set_option maxRecDepth 20000
open Go.RowKit
set_option linter.unusedVariables false
theorem or_nat (a b : Nat) (s : Nat) (hs : s ≤ 63) (hb : b < 2 ^ s) (ha : a * 2 ^ s < 18446744073709551616) : bits .or .u64 ((a : Int) * 2 ^ s) (b : Int) = (a : Int) * 2 ^ s + b := by
  have e : ((a : Int) * 2 ^ s) = ((a * 2 ^ s : Nat) : Int) := by push_cast; rfl
  rw [e]
  have := u64_or_nat (a * 2 ^ s) b ha (by have : 2 ^ s ≤ 2 ^ 63 := Nat.pow_le_pow_right (by decide) hs; omega)
  rw [this]
  have h2 := Nat.shiftLeft_add_eq_or_of_lt hb a
  rw [Nat.shiftLeft_eq] at h2
  rw [← h2]
  push_cast
  rfl
theorem kn_set (hi lo y n s : Nat) (hs : s + n = 63) (hn : n ≤ 62) (h0 : 2 ^ n ≤ y) (h1 : y < 2 * 2 ^ n) (h3 : hi < y) (h5 : lo < 18446744073709551616) :
    9223372036854775808 ≤ y * 2 ^ s ∧ y * 2 ^ s < 18446744073709551616 ∧ hi * 2 ^ s < 18446744073709551616 ∧ lo / 2 ^ (64 - s) < 2 ^ s ∧
    (hi * 18446744073709551616 + lo) * 2 ^ s = (hi * 2 ^ s + lo / 2 ^ (64 - s)) * 18446744073709551616 + lo * 2 ^ s % 18446744073709551616 ∧
    (hi * 18446744073709551616 + lo) * 2 ^ s / (y * 2 ^ s) = (hi * 18446744073709551616 + lo) / y := by
  have e63 : 2 ^ n * 2 ^ s = 9223372036854775808 := by rw [← Nat.pow_add, show n + s = 63 from by omega]
  have e64 : 2 ^ (64 - s) * 2 ^ s = 18446744073709551616 := by rw [← Nat.pow_add, show 64 - s + s = 64 from by omega]
  have hM : 0 < 2 ^ s := Nat.two_pow_pos s
  have a1 : 2 ^ n * 2 ^ s ≤ y * 2 ^ s := Nat.mul_le_mul_right _ h0
  have a2 : y * 2 ^ s < 2 * 2 ^ n * 2 ^ s := Nat.mul_lt_mul_of_pos_right h1 hM
  have a3 : hi * 2 ^ s < y * 2 ^ s := Nat.mul_lt_mul_of_pos_right h3 hM
  rw [Nat.mul_assoc, e63] at a2
  have a4 : lo / 2 ^ (64 - s) < 2 ^ s := Nat.div_lt_of_lt_mul (by rw [e64]; exact h5)
  have a5 : lo * 2 ^ s / 18446744073709551616 = lo / 2 ^ (64 - s) := by rw [← e64, Nat.mul_div_mul_right _ _ hM]
  refine ⟨by omega, by omega, by omega, a4, ?_, Nat.mul_div_mul_right _ _ hM⟩
  have a6 := Nat.div_add_mod (lo * 2 ^ s) 18446744073709551616
  rw [a5] at a6
  rw [Nat.add_mul, Nat.add_mul, Nat.mul_right_comm, Nat.add_assoc, Nat.mul_comm (lo / 2 ^ (64 - s)), a6]
/-- the second digit by trial: what stands before each round -/
structure Try1 (N1 v0 P R Q q r : Int) : Prop where
  sum : q * P + r = N1
  le : Q ≤ q
  q1 : q ≤ 4294967295
  r0 : 0 ≤ r
  r1 : r ≤ 4294967295
theorem Try1.first {N1 v0 P R Q : Int} (hP : 2147483648 ≤ P) (hR0 : 0 ≤ R) (hv1 : v0 ≤ 4294967295) (h0 : 0 ≤ N1) (hN : N1 ≤ 4299262263295) (hP2 : P ≤ 4294967295) (hQ0 : 0 ≤ Q) (hQ : Q * (P * 4294967296 + R) ≤ N1 * 4294967296 + v0) : Try1 N1 v0 P R Q (N1 / P) (N1 - N1 / P * P) := by
  have d := Int.mul_ediv_add_emod N1 P
  have m0 := Int.emod_nonneg N1 (show P ≠ 0 by omega)
  have m1 := Int.emod_lt_of_pos N1 (show 0 < P by omega)
  have c := Int.mul_comm P (N1 / P)
  refine ⟨by omega, ?_, ?_, by omega, by omega⟩
  · rw [Int.le_ediv_iff_mul_le (by omega)]
    have h := Int.mul_nonneg hQ0 hR0
    have e : Q * (P * 4294967296 + R) = Q * P * 4294967296 + Q * R := by rw [Int.mul_add, Int.mul_assoc]
    omega
  · have : N1 / P ≤ N1 / 1 := by
      have h1 : N1 / P * P ≤ N1 := by omega
      have h2 : 0 ≤ N1 / P := Int.ediv_nonneg h0 (by omega)
      have h3 : N1 / P * 2147483648 ≤ N1 / P * P := Int.mul_le_mul_of_nonneg_left hP h2
      omega
    have h1 : N1 / P * P ≤ N1 := by omega
    have h2 : 0 ≤ N1 / P := Int.ediv_nonneg h0 (by omega)
    have h3 : N1 / P * 2147483648 ≤ N1 / P * P := Int.mul_le_mul_of_nonneg_left hP h2
    omega
theorem Try1.done {N1 v0 P R Q q r : Int} (h : Try1 N1 v0 P R Q q r) (hP : 0 ≤ P) (hR0 : 0 ≤ R) (hQ : N1 * 4294967296 + v0 < (Q + 1) * (P * 4294967296 + R)) (ht : q * R ≤ 4294967296 * r + v0) : q = Q := by
  have e : q * (P * 4294967296 + R) = q * P * 4294967296 + q * R := by rw [Int.mul_add, Int.mul_assoc]
  have hs := h.sum
  have hl : q * (P * 4294967296 + R) ≤ N1 * 4294967296 + v0 := by omega
  have hle := h.le
  rcases Int.lt_or_le Q q with hq | hq
  · have : (Q + 1) * (P * 4294967296 + R) ≤ q * (P * 4294967296 + R) := Int.mul_le_mul_of_nonneg_right (by omega) (by omega)
    omega
  · omega
theorem Try1.next {N1 v0 P R Q q r : Int} (h : Try1 N1 v0 P R Q q r) (hP : 0 ≤ P) (hR0 : 0 ≤ R) (hQ : Q * (P * 4294967296 + R) ≤ N1 * 4294967296 + v0) (ht : 4294967296 * r + v0 < q * R) : (q - 1) * P + (r + P) = N1 ∧ Q ≤ q - 1 := by
  have e : q * (P * 4294967296 + R) = q * P * 4294967296 + q * R := by rw [Int.mul_add, Int.mul_assoc]
  have hs := h.sum
  have e2 : (q - 1) * P = q * P - P := by rw [Int.sub_mul, Int.one_mul]
  refine ⟨by omega, ?_⟩
  have hle := h.le
  rcases Int.lt_or_le Q q with hq | hq
  · omega
  · have : q * (P * 4294967296 + R) ≤ Q * (P * 4294967296 + R) := Int.mul_le_mul_of_nonneg_right hq (by omega)
    omega
theorem Try1.stop {N1 v0 P R Q q r : Int} (hs : q * P + r = N1) (hle : Q ≤ q) (hP : 0 ≤ P) (hR0 : 0 ≤ R) (hR1 : R ≤ 4294967295) (hq0 : 0 ≤ q) (hq1 : q ≤ 4294967295) (hv : 0 ≤ v0) (hQ : N1 * 4294967296 + v0 < (Q + 1) * (P * 4294967296 + R)) (hr : 4294967296 ≤ r) : q = Q := by
  have hqr : q * R ≤ 4294967295 * 4294967295 := Int.mul_le_mul hq1 hR1 hR0 (by omega)
  have e : q * (P * 4294967296 + R) = q * P * 4294967296 + q * R := by rw [Int.mul_add, Int.mul_assoc]
  have hl : q * (P * 4294967296 + R) ≤ N1 * 4294967296 + v0 := by omega
  rcases Int.lt_or_le Q q with hq | hq
  · have : (Q + 1) * (P * 4294967296 + R) ≤ q * (P * 4294967296 + R) := Int.mul_le_mul_of_nonneg_right (by omega) (by omega)
    omega
  · omega
/-- all that the division needs, in the walk's own spelling -/
structure Kit (hi lo y : Int) (s : Nat) (Q Y P R U V v1 v0 N1 q0 S : Int) : Prop where
  hY : IntKind.u64.wrap (y * 2 ^ s) = Y
  hP : Y / 4294967296 = P
  hR : bits .and .u64 Y 4294967295 = R
  hU : bits .or .u64 (IntKind.u64.wrap (hi * 2 ^ s)) (lo / 2 ^ (64 - s)) = U
  hV : IntKind.u64.wrap (lo * 2 ^ s) = V
  hv1 : V / 4294967296 = v1
  hv0 : bits .and .u64 V 4294967295 = v0
  hq1 : U.tdiv P = 0
  hN : U * 4294967296 + v1 = N1
  hq0 : N1.tdiv P = q0
  hS : q0 * P = S
  P0 : 2147483648 ≤ P
  P1 : P ≤ 4294967295
  R0 : 0 ≤ R
  R1 : R ≤ 4294967295
  U0 : 0 ≤ U
  U1 : U ≤ 1000
  a0 : 0 ≤ v1
  a1 : v1 ≤ 4294967295
  b0 : 0 ≤ v0
  b1 : v0 ≤ 4294967295
  try1 : Try1 N1 v0 P R Q q0 (N1 - S)
  lo' : Q * (P * 4294967296 + R) ≤ N1 * 4294967296 + v0
  hi' : N1 * 4294967296 + v0 < (Q + 1) * (P * 4294967296 + R)
  Y0 : 0 ≤ Y
  Y1 : Y ≤ 18446744073709551615
  V0 : 0 ≤ V
  V1 : V ≤ 18446744073709551615
  Q0 : 0 ≤ Q
theorem kit_of (hi lo y n s : Nat) (hs : s + n = 63) (hn : n ≤ 62) (h0 : 2 ^ n ≤ y) (h1 : y < 2 * 2 ^ n) (h3 : hi < y) (h5 : lo < 18446744073709551616) (hq : (hi * 18446744073709551616 + lo) / y ≤ 1000) :
    ∃ Y P R U V v1 v0 N1 q0 S, Kit hi lo y s ((hi * 18446744073709551616 + lo) / y : Nat) Y P R U V v1 v0 N1 q0 S := by
  obtain ⟨a1, a2, a3, a4, a5, a6⟩ := kn_set hi lo y n s hs hn h0 h1 h3 h5
  have hM : 0 < 2 ^ s := Nat.two_pow_pos s
  have hy : 0 < y * 2 ^ s := by omega
  have q1 := Nat.div_mul_le_self ((hi * 18446744073709551616 + lo) * 2 ^ s) (y * 2 ^ s)
  have q2 := Nat.lt_div_mul_add (a := (hi * 18446744073709551616 + lo) * 2 ^ s) hy
  rw [a6] at q1 q2
  have eU := or_nat hi (lo / 2 ^ (64 - s)) s (by omega) a4 a3
  have eY : (((y * 2 ^ s : Nat)) : Int) = (y : Int) * 2 ^ s := by push_cast; rfl
  have eH : (((hi * 2 ^ s : Nat)) : Int) = (hi : Int) * 2 ^ s := by push_cast; rfl
  have eV : (((lo * 2 ^ s : Nat)) : Int) = (lo : Int) * 2 ^ s := by push_cast; rfl
  have eL : (((lo / 2 ^ (64 - s) : Nat)) : Int) = (lo : Int) / 2 ^ (64 - s) := by push_cast; rfl
  have eU' : (((hi * 2 ^ s + lo / 2 ^ (64 - s) : Nat)) : Int) = (hi : Int) * 2 ^ s + ((lo / 2 ^ (64 - s) : Nat) : Int) := by rw [← eH]; omega
  generalize (hi * 18446744073709551616 + lo) / y = Q at *
  rw [a5] at q1 q2
  have hQY : Q * (y * 2 ^ s) ≤ 1000 * (y * 2 ^ s) := Nat.mul_le_mul_right _ hq
  have hVe : IntKind.u64.wrap ((lo : Int) * 2 ^ s) = ((lo * 2 ^ s % 18446744073709551616 : Nat) : Int) := by rw [IntKind.wrap_u64, ← eV]; omega
  have hYe : IntKind.u64.wrap ((y : Int) * 2 ^ s) = ((y * 2 ^ s : Nat) : Int) := by rw [IntKind.wrap_u64, ← eY]; omega
  have hUe : bits .or .u64 (IntKind.u64.wrap ((hi : Int) * 2 ^ s)) ((lo : Int) / 2 ^ (64 - s)) = ((hi * 2 ^ s + lo / 2 ^ (64 - s) : Nat) : Int) := by
    rw [show IntKind.u64.wrap ((hi : Int) * 2 ^ s) = (hi : Int) * 2 ^ s from by rw [IntKind.wrap_u64, ← eH]; omega, ← eL, eU, eU']
  have hVlt : lo * 2 ^ s % 18446744073709551616 < 18446744073709551616 := Nat.mod_lt _ (by decide)
  clear eU eY eH eV eL eU' a5 a6 a4 a3 hs h0 h1
  generalize hi * 2 ^ s + lo / 2 ^ (64 - s) = U at *
  generalize lo * 2 ^ s % 18446744073709551616 = V at *
  generalize y * 2 ^ s = Y at *
  have iq1 : (Q : Int) * (Y : Int) ≤ (U : Int) * 18446744073709551616 + (V : Int) := by have e := Int.natCast_mul Q Y; rw [← e]; omega
  have iq2 : (U : Int) * 18446744073709551616 + (V : Int) < (Q : Int) * (Y : Int) + (Y : Int) := by have e := Int.natCast_mul Q Y; rw [← e]; omega
  have iq3 : ((Q : Int) + 1) * (Y : Int) = (Q : Int) * (Y : Int) + (Y : Int) := by rw [Int.add_mul, Int.one_mul]
  have hU1 : U ≤ 1000 := by omega
  have hP0 : 2147483648 ≤ (Y : Int) / 4294967296 := by omega
  have hP1 : (Y : Int) / 4294967296 ≤ 4294967295 := by omega
  have hYd : (Y : Int) / 4294967296 * 4294967296 + (Y : Int) % 4294967296 = Y := by omega
  have hVd : (V : Int) / 4294967296 * 4294967296 + (V : Int) % 4294967296 = V := by omega
  have l1 : (Q : Int) * ((Y : Int) / 4294967296 * 4294967296 + (Y : Int) % 4294967296) ≤ ((U : Int) * 4294967296 + (V : Int) / 4294967296) * 4294967296 + (V : Int) % 4294967296 := by rw [hYd]; omega
  have l2 : ((U : Int) * 4294967296 + (V : Int) / 4294967296) * 4294967296 + (V : Int) % 4294967296 < ((Q : Int) + 1) * ((Y : Int) / 4294967296 * 4294967296 + (Y : Int) % 4294967296) := by rw [hYd, iq3]; omega
  have t1 := Try1.first (N1 := (U : Int) * 4294967296 + (V : Int) / 4294967296) (v0 := (V : Int) % 4294967296) hP0 (show 0 ≤ (Y : Int) % 4294967296 by omega) (by omega) (by omega) (by omega) hP1 (show 0 ≤ (Q : Int) by omega) l1
  refine ⟨Y, (Y : Int) / 4294967296, (Y : Int) % 4294967296, U, V, (V : Int) / 4294967296, (V : Int) % 4294967296, (U : Int) * 4294967296 + (V : Int) / 4294967296, ((U : Int) * 4294967296 + (V : Int) / 4294967296) / ((Y : Int) / 4294967296), ((U : Int) * 4294967296 + (V : Int) / 4294967296) / ((Y : Int) / 4294967296) * ((Y : Int) / 4294967296), ?_⟩
  refine ⟨hYe, rfl, and_low32 _ (by omega) (by omega), hUe, hVe, rfl, and_low32 _ (by omega) (by omega), ?_, rfl, ?_, rfl, hP0, hP1, by omega, by omega, by omega, by omega, by omega, by omega, by omega, by omega, t1, l1, l2, by omega, by omega, by omega, by omega, by omega⟩
  · rw [Int.tdiv_eq_ediv_of_nonneg (by omega)]
    exact Int.ediv_eq_zero_of_lt (by omega) (by omega)
  · rw [Int.tdiv_eq_ediv_of_nonneg (by omega)]
end Go.Proofs.Ytjpnkecfoealoaa.Vc
