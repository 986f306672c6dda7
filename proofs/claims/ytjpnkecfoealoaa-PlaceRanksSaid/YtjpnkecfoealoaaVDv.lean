import Derived.Test.YtjpnkecfoealoaaVKn
namespace Go.Proofs.Ytjpnkecfoealoaa.Vc
set_option maxRecDepth 20000
open Go.RowKit
set_option linter.unusedVariables false
def DivPost (Q : Int) (w : World) (e : Ending) (w' : World) : Prop := ∃ r : Int, e = .returned (.tuple #[.int .u64 Q, .int .u64 r]) ∧ w = w'
theorem lz_s (a : Int) (n s : Nat) (hs : s + n = 63) (w : World) (hn : 54 ≤ n) (hn' : n ≤ 62) (h0 : 2 ^ n ≤ a) (h1 : a < 2 * 2 ^ n) : Calls Try.prog 70 #[.int .u64 a] w fun e w' => e = .returned (.int .i64 (s : Int)) ∧ w = w' := by
  have := lz_any a n w hn hn' h0 h1
  rwa [show (63 : Int) - n = s from by omega] at this
set_option maxRecDepth 100000 in
set_option maxHeartbeats 1000000 in
theorem div_big (hi lo y : Int) (s : Nat) (Q Y P R U V v1 v0 N1 q0 S : Int) (w : World) (K : Kit hi lo y s Q Y P R U V v1 v0 N1 q0 S) (hs : s ≤ 9) (h2 : 0 < hi) (h3 : hi < y) (h4 : 0 ≤ lo) (h5 : lo ≤ 18446744073709551615) (h6 : hi ≤ 999) (y1 : y ≤ 9223372036854775807)
    (c : Hid (∀ W : World, Calls Try.prog 70 #[.int .u64 y] W fun e w' => e = .returned (.int .i64 (s : Int)) ∧ W = w')) :
    Calls Try.prog 54 #[.int .u64 hi, .int .u64 lo, .int .u64 y] w (DivPost Q w) := by
  have y0 : 0 < y := by omega
  have hyb : decide (y ≤ hi) = false := by simpa using h3
  have hrs : 0 ≤ N1 - S ∧ N1 - S ≤ 4294967295 := ⟨K.try1.r0, K.try1.r1⟩
  obtain ⟨r0, r1⟩ := hrs
  have HK := Lib.hid K
  have w0 : 0 ≤ q0 := by have := K.try1.le; have := K.Q0; omega
  have w1 : q0 ≤ 4294967295 := K.try1.q1
  have w2 : 0 ≤ S := by rw [← K.hS]; exact Int.mul_nonneg w0 (by have := K.P0; omega)
  have w3 : S ≤ 18446744073709551615 := by have := K.hN; have := K.U1; have := K.a1; omega
  obtain ⟨hY, hP, hR, hU, hV, hv1, hv0, hq1, hN, hq0, hS, P0, P1, R0, R1, U0, U1, a0, a1, b0, b1, _, _, _, Y0, Y1, V0, V1, Q0⟩ := K
  have PP : 0 < P := by omega
  clear h3
  go_enter Try.func54, Try.ntmps54
  go_wp2_with (go_at_call 70; refine (c.out _).mono ?_; rintro e w' ⟨rfl, rfl⟩)
  refine wp_loop_rounds 1 ?_
  rw [rounds_succ]
  go_wp2_with fail
  go_loop [18, 16] (fun a b => ∃ q r : Int, a = .int .u64 q ∧ b = .int .u64 r ∧ Try1 N1 v0 P R Q q r) (fun a _ => (intOf a).toNat)
  case atStart => exact ⟨_, _, rfl, rfl, HK.out.try1⟩
  case round =>
    obtain ⟨q, r, rfl, rfl, tr⟩ := hrel
    have qQ := tr.le
    have q1 := tr.q1
    have t0 := tr.r0
    have t1 := tr.r1
    have g0 : 0 ≤ q := by omega
    have m0 := Int.mul_nonneg g0 R0
    have m1 : q * R ≤ 4294967295 * 4294967295 := Int.mul_le_mul q1 R1 R0 (by omega)
    have HT' : IntKind.u64.wrap (q * R) = q * R := by rw [IntKind.wrap_u64]; omega
    obtain ⟨T, hT⟩ : ∃ T, q * R = T := ⟨_, rfl⟩
    have HT : IntKind.u64.wrap (q * R) = T := HT'.trans hT
    rw [hT] at m0 m1
    clear HT'
    by_cases ht : 4294967296 * r + v0 < T
    · obtain ⟨n1, n2⟩ := tr.next (by omega) R0 HK.out.lo' (by rw [hT]; exact ht)
      have g1 : 1 ≤ q := by omega
      by_cases hb : r + P ≤ 4294967295
      · have TR := Lib.hid (Try1.mk (v0 := v0) (R := R) n1 n2 (by omega) (by omega) hb)
        clear n1 n2 tr
        clear hT
        go_wp2_with fail
        go_round
        case rel => exact ⟨_, _, rfl, rfl, TR.out⟩
        case measure => simp [intOf]; omega
      · have e := Try1.stop n1 n2 (by omega) R0 R1 (by omega) (by omega) b0 HK.out.hi' (by omega)
        have HE := Lib.hid e
        have hb' : 4294967296 ≤ r + P := by omega
        clear n1 n2 tr e hb
        clear hT
        go_wp2_with fail
        go_ret2
        rw [HE.out]
        exact ⟨_, rfl, rfl⟩
    · have e := tr.done (by omega) R0 HK.out.hi' (by rw [hT]; omega)
      subst e
      clear tr
      clear hT
      go_wp2_with fail
      go_ret2
      exact ⟨_, rfl, rfl⟩
end Go.Proofs.Ytjpnkecfoealoaa.Vc
