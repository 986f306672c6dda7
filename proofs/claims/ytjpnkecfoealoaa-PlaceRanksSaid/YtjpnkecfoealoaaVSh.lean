import Derived.Test.YtjpnkecfoealoaaVDv
namespace Go.Proofs.Ytjpnkecfoealoaa.Vc
set_option maxRecDepth 20000
open Go.RowKit
set_option linter.unusedVariables false
/-- it draws, and answers v -/
def Drawn (v : Value) (w : World) (e : Ending) (w' : World) : Prop := e = .returned v ∧ ∃ n, w' = w.drewN n
def DivQ (Q : Int) (w : World) (e : Ending) (w' : World) : Prop := ∃ r n, e = .returned (.tuple #[.int .u64 Q, .int .u64 r]) ∧ w' = w.drewN n
set_option maxRecDepth 100000 in
theorem div_small (lo y : Int) (w : World) (h4 : 0 ≤ lo) (h5 : lo ≤ 18446744073709551615) (y0 : 0 < y) (y1 : y ≤ 9223372036854775807) :
    Calls Try.prog 54 #[.int .u64 0, .int .u64 lo, .int .u64 y] w (DivQ (lo / y) w) := by
  have hq := Int.tdiv_eq_ediv_of_nonneg (b := y) h4
  go_enter Try.func54, Try.ntmps54
  go_wp2_with fail
  go_quiet (fail)
  go_wp2_with fail
  go_ret2
  have d0 : 0 ≤ lo / y := Int.ediv_nonneg h4 (by omega)
  have d1 : lo / y ≤ lo := Int.ediv_le_self _ h4
  have e : IntKind.u64.wrap (lo / y) = lo / y := by rw [IntKind.wrap_u64]; omega
  rw [e]
  exact ⟨lo % y, nq, rfl, rfl⟩
theorem div_any (a b : Int) (w : World) (a0 : 0 ≤ a) (ab : a ≤ b) (b0 : 0 < b) (b1 : b ≤ 9223372036854775807) :
    Calls Try.prog 54 #[.int .u64 (1000 * a / 18446744073709551616), .int .u64 (1000 * a % 18446744073709551616), .int .u64 b] w (DivQ (1000 * a / b) w) := by
  by_cases h : 1000 * a / 18446744073709551616 = 0
  · have := div_small (1000 * a % 18446744073709551616) b w (by omega) (by omega) b0 b1
    rw [h]
    rwa [show 1000 * a % 18446744073709551616 = 1000 * a from by omega] at this ⊢
  · obtain ⟨x, rfl⟩ := Int.eq_ofNat_of_zero_le a0
    obtain ⟨y, rfl⟩ := Int.eq_ofNat_of_zero_le (show 0 ≤ b by omega)
    have hn0 : 2 ^ y.log2 ≤ y := Nat.log2_self_le (by omega)
    have hn1 : y < 2 ^ (y.log2 + 1) := Nat.lt_log2_self
    rw [Nat.pow_succ] at hn1
    have l0 : 54 ≤ y.log2 := (Nat.le_log2 (by omega)).2 (by omega)
    have l1 : y.log2 < 63 := (Nat.log2_lt (by omega)).2 (by omega)
    generalize y.log2 = n at *
    have q : 1000 * x / y ≤ 1000 := Nat.div_le_of_le_mul (by rw [Nat.mul_comm]; exact Nat.mul_le_mul_right _ (by omega))
    have e : (1000 * x / 18446744073709551616) * 18446744073709551616 + 1000 * x % 18446744073709551616 = 1000 * x := by omega
    obtain ⟨Y, P, R, U, V, v1, v0, N1, q0, S, K⟩ := kit_of (1000 * x / 18446744073709551616) (1000 * x % 18446744073709551616) y n (63 - n) (by omega) (by omega) hn0 (by omega) (by omega) (Nat.mod_lt _ (by decide)) (by rw [e]; exact q)
    rw [e] at K
    have e1 : ((1000 * x / 18446744073709551616 : Nat) : Int) = 1000 * (x : Int) / 18446744073709551616 := by omega
    have e2 : ((1000 * x % 18446744073709551616 : Nat) : Int) = 1000 * (x : Int) % 18446744073709551616 := by omega
    have e3 : ((1000 * x / y : Nat) : Int) = 1000 * (x : Int) / y := by
      rw [Int.natCast_ediv, Int.natCast_mul]; rfl
    rw [e1, e2, e3] at K
    have i0 : (2 : Int) ^ n ≤ y := by exact_mod_cast hn0
    have i1 : (y : Int) < 2 * 2 ^ n := by
      have : y < 2 * 2 ^ n := by omega
      exact_mod_cast this
    exact (div_big _ _ _ (63 - n) _ _ _ _ _ _ _ _ _ _ _ w K (by omega) (by omega) (by omega) (by omega) (by omega) (by omega) (by omega) (Lib.hid fun W => lz_s y n (63 - n) (by omega) W l0 (by omega) i0 i1)).mono
      fun e w' ⟨r, h1, h2⟩ => ⟨r, 0, h1, h2.symm⟩
def shr (a b : Int) : Int := if b < a then 1000 else if b = 0 then 0 else 1000 * a / b
theorem shr_bd (a b : Int) (a0 : 0 ≤ a) (b0 : 0 ≤ b) : 0 ≤ shr a b ∧ shr a b ≤ 1000 := by
  unfold shr
  split
  · omega
  · split
    · omega
    · refine ⟨Int.ediv_nonneg (by omega) b0, Int.ediv_le_of_le_mul (by omega) ?_⟩
      rw [Int.mul_comm]
      omega
theorem share1_any (a b : Int) (w : World) (a0 : 0 ≤ a) (a1 : a ≤ 9223372036854775807) (b0 : 0 ≤ b) (b1 : b ≤ 9223372036854775807) : Calls Try.prog 44 #[.int .i64 a, .int .i64 b] w (Drawn (.int .i64 (shr a b)) w) := by
  have hbd := shr_bd a b a0 b0
  by_cases h1 : b < a
  · rw [show shr a b = 1000 from by unfold shr; rw [if_pos h1]]
    go_enter Try.func44, Try.ntmps44
    go_wp2_with fail
    go_ret
    exact ⟨rfl, 0, rfl⟩
  · by_cases h2 : b = 0
    · rw [show shr a b = 0 from by unfold shr; rw [if_neg h1, if_pos h2]]
      subst h2
      have h1' : decide (0 < a) = false := by simpa using h1
      go_enter Try.func44, Try.ntmps44
      go_wp2_with fail
      go_ret
      exact ⟨rfl, 0, rfl⟩
    · have hs : shr a b = 1000 * a / b := by unfold shr; rw [if_neg h1, if_neg h2]
      rw [hs] at hbd ⊢
      have cm := Lib.hid fun W : World => mul_any a W a0 a1
      have cd := Lib.hid fun W : World => div_any a b W a0 (by omega) (by omega) b1
      have h1' : decide (b < a) = false := by simpa using h1
      have h2' : (b == 0) = false := by simpa using h2
      clear hs
      generalize 1000 * a / 18446744073709551616 = H at *
      generalize 1000 * a % 18446744073709551616 = L at *
      generalize 1000 * a / b = Q at *
      go_enter Try.func44, Try.ntmps44
      go_wp2_with (go_at_call 53; refine (cm.out _).mono ?_; rintro e w' ⟨rfl, rfl⟩)
      refine (cd.out _).mono ?_
      rintro e w' ⟨r, n, rfl, rfl⟩
      go_wp2_with fail
      go_ret
      exact ⟨rfl, n, rfl⟩
end Go.Proofs.Ytjpnkecfoealoaa.Vc
