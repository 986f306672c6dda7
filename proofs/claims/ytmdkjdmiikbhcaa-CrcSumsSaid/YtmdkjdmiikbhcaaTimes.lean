import Derived.Test.YtmdkjdmiikbhcaaProc
import Derived.Test.YtmdkjdmiikbhcaaPm
namespace Go.Proofs.Ytmdkjdmiikbhcaa
open Go.RowKit
set_option linter.unusedVariables false

def TRel (a b : Nat) (bv bt pv : Value) : Prop := ∃ i : Nat, i ≤ 32 ∧ bv = .int .u32 (Pl.zeros0 i b : Nat) ∧ bt = .int .u32 (Pl.bitAt i : Nat) ∧ pv = .int .u32 (Pl.mulTo i a b : Nat)

set_option maxRecDepth 20000 in
theorem times_any (a b : Nat) (w : World) (ha : a < 4294967296) (hb : b < 4294967296) : Calls Try.prog 17 #[.int .u32 a, .int .u32 b] w fun e w' => e = .returned (.int .u32 (Pl.mulTo 32 a b : Nat)) ∧ w = w' := by
  go_enter Try.func17, Try.ntmps17
  go_wp2_with fail
  go_loop [1, 5, 6] (fun bv pv bt => TRel a b bv bt pv) (fun _ _ bt => (intOf bt).toNat)
  case atStart => exact ⟨0, by omega, rfl, rfl, rfl⟩
  case round =>
    obtain ⟨i, hi, rfl, rfl, rfl⟩ := hrel
    by_cases hlt : i < 32
    · have hz := Pl.zeros0_lt i b hb
      have HZ := Lib.hid (Pl.zeros0_out i b)
      have hbit := Pl.bitAt_lt i
      have hpos := Pl.bitAt_pos i hlt
      have HB := Lib.hid (Pl.bitAt_succ i)
      have hand := u32_and_nat a (Pl.bitAt i) ha hbit
      rw [Pl.and_bit a i hlt] at hand
      have hpl := Pl.mulTo_lt i a b hb
      have HM := Lib.hid (show Pl.mulTo (i + 1) a b = Pl.mulTo i a b ^^^ (if a.testBit (31 - i) then Pl.zeros0 i b else 0) from rfl)
      have hx := u32_xor_nat (Pl.mulTo i a b) (Pl.zeros0 i b) hpl hz
      have HX := Lib.hid hx
      clear hx
      generalize Pl.mulTo i a b = M at *
      generalize Pl.zeros0 i b = Z at *
      generalize Pl.bitAt i = B at *
      have hne : ((B : Int) != 0) = true := by rw [bne_iff_ne]; omega
      cases htb : a.testBit (31 - i) with
      | true =>
        rw [htb] at hand HM
        rw [if_pos rfl] at hand
        clear htb
        go_wp2_with (go_at_call 19; refine (stepZero_any _ _ (by assumption)).mono ?_; rintro e w' ⟨rfl, rfl⟩)
        go_round
        case rel => exact ⟨i + 1, by omega, by rw [HZ.out], by rw [← HB.out]; rfl, by rw [HM.out, if_pos trivial, HX.out]⟩
        case measure => simp [intOf]; omega
      | false =>
        rw [htb] at hand HM
        rw [if_neg (by simp)] at hand
        clear htb
        go_wp2_with (go_at_call 19; refine (stepZero_any _ _ (by assumption)).mono ?_; rintro e w' ⟨rfl, rfl⟩)
        go_round
        case rel => exact ⟨i + 1, by omega, by rw [HZ.out], by rw [← HB.out]; rfl, by rw [HM.out, if_neg (by simp), Nat.xor_zero]⟩
        case measure => simp [intOf]; omega
    · obtain rfl : i = 32 := by omega
      rw [Pl.bitAt_end]
      go_wp2_with fail
      go_ret
      exact ⟨rfl, rfl⟩

theorem i64_and1 (n : Int) : bits .and .i64 n 1 = n % 2 := by
  have h1 : (BitVec.ofInt 64 1).toNat = 2 ^ 1 - 1 := by decide
  have key : (BitVec.ofInt 64 n &&& BitVec.ofInt 64 1).toNat = (n % ((2 ^ 64 : Nat) : Int)).toNat % 2 ^ 1 := by
    rw [BitVec.toNat_and, BitVec.toNat_ofInt, h1, Nat.and_two_pow_sub_one_eq_mod]
  show IntKind.i64.wrap ((BitVec.ofInt 64 n &&& BitVec.ofInt 64 1).toNat : Nat) = n % 2
  rw [key, IntKind.wrap_i64]
  omega

def ZRel (N : Nat) (nv fv qv : Value) : Prop := ∃ p q m : Nat, p + q * m = N ∧ m ≤ 9223372036854775807 ∧ nv = .int .i64 m ∧ fv = .int .u32 (Pl.fac p : Nat) ∧ qv = .int .u32 (Pl.fac q : Nat)

theorem dbl_odd {p q m N : Nat} (h : p + q * m = N) (hm : m % 2 = 1) : p + q + (q + q) * (m / 2) = N := by
  have e : m = m / 2 + m / 2 + 1 := by omega
  generalize m / 2 = k at *
  subst e
  rw [← h, Nat.mul_add, Nat.mul_add, Nat.add_mul]
  omega
theorem dbl_even {p q m N : Nat} (h : p + q * m = N) (hm : m % 2 = 0) : p + (q + q) * (m / 2) = N := by
  have e : m = m / 2 + m / 2 := by omega
  generalize m / 2 = k at *
  subst e
  rw [← h, Nat.mul_add, Nat.add_mul]

set_option maxRecDepth 20000 in
theorem zeroBytes_any (n : Nat) (w : World) (hn : n ≤ 9223372036854775807) : Calls Try.prog 18 #[.int .i64 n] w fun e w' => e = .returned (.int .u32 (Pl.fac n : Nat)) ∧ w = w' := by
  go_enter Try.func18, Try.ntmps18
  go_wp2_with fail
  go_loop [0, 3, 4] (ZRel n) (fun nv _ _ => (intOf nv).toNat)
  case atStart => exact ⟨0, 1, n, by omega, hn, rfl, by rw [Pl.fac_none]; rfl, by rw [Pl.fac_one]; rfl⟩
  case round =>
    obtain ⟨p, q, m, hN, hm, rfl, rfl, rfl⟩ := hrel
    by_cases hlt : 0 < m
    · have hp := Pl.fac_lt p
      have hq := Pl.fac_lt q
      have HP := Lib.hid (Pl.fac_mul p q)
      have HQ := Lib.hid (Pl.fac_mul q q)
      have hand := i64_and1 m
      have HN := Lib.hid hN
      have hgt : decide ((m : Int) > 0) = true := by simp; omega
      clear hN
      rcases (by omega : m % 2 = 1 ∨ m % 2 = 0) with h2 | h2
      · have heq : ((m : Int) % 2 == 1) = true := by rw [beq_iff_eq]; omega
        have H2 := Lib.hid h2
        clear h2
        generalize Pl.fac p = P at *
        generalize Pl.fac q = Q at *
        go_wp2_with fail
        refine (times_any _ _ _ hp hq).mono ?_
        rintro e w' ⟨rfl, rfl⟩
        rw [HP.out]
        go_wp2_with fail
        refine (times_any _ _ _ hq hq).mono ?_
        rintro e w' ⟨rfl, rfl⟩
        rw [HQ.out]
        go_wp2_with fail
        go_round
        case rel => exact ⟨p + q, q + q, m / 2, dbl_odd HN.out H2.out, by omega, by go_num, rfl, rfl⟩
        case measure => simp [intOf]; omega
      · have heq : ((m : Int) % 2 == 1) = false := by rw [beq_eq_false_iff_ne]; omega
        have H2 := Lib.hid h2
        clear h2
        generalize Pl.fac q = Q at *
        go_wp2_with fail
        refine (times_any _ _ _ hq hq).mono ?_
        rintro e w' ⟨rfl, rfl⟩
        rw [HQ.out]
        go_wp2_with fail
        go_round
        case rel => exact ⟨p, q + q, m / 2, dbl_even HN.out H2.out, by omega, by go_num, rfl, rfl⟩
        case measure => simp [intOf]; omega
    · obtain rfl : m = 0 := by omega
      obtain rfl : p = n := by omega
      go_wp2_with fail
      go_ret
      exact ⟨rfl, rfl⟩
end Go.Proofs.Ytmdkjdmiikbhcaa
