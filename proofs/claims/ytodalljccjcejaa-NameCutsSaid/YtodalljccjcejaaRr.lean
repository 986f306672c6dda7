import Derived.Test.YtodalljccjcejaaAwake
import Derived.LoopN
namespace Go.Proofs.Ytodalljccjcejaa
open Go.RowKit
set_option linter.unusedVariables false

theorem g_at {s : ByteArray} {k : Nat} (h : k < s.size) : Pl.g s.data.toList k = (s[k]'h).toNat := by
  have h1 : k < s.data.toList.length := by rw [Array.length_toList]; exact h
  unfold Pl.g
  rw [List.getElem?_eq_getElem h1, Array.getElem_toList]
  rfl
theorem ret3 {a b a' b' : Int} {c c' : Bool} (h : a = a') (k : b = b') (m : c = c') : Ending.returned (.tuple #[.int .i64 a, .int .i64 b, .bool c]) = .returned (.tuple #[.int .i64 a', .int .i64 b', .bool c']) := by rw [h, k, m]

set_option maxHeartbeats 1000000 in
set_option maxRecDepth 100000 in
theorem rr1 (s : ByteArray) (w : World) (x0 : Nat) (R1 R2 : Int) (R3 : Bool) (hz : 0 < s.size) (hs : s.size ≤ 281474976710656) (e0 : (s[0]'(by omega)).toNat = x0) (l0 : (x0 : Int) ≤ 255)
     (c0 : (x0 : Int) < 194 ∨ 245 ≤ (x0 : Int)) (HD : Hid (((x0 : Int) < 128 ∧ R1 = x0 ∧ R2 = 1 ∧ R3 = true) ∨ (128 ≤ (x0 : Int) ∧ R1 = 65533 ∧ R2 = 1 ∧ R3 = false))) :
    Calls Try.prog 22 #[.string s] w fun e w' => e = .returned (.tuple #[.int .i64 R1, .int .i64 R2, .bool R3]) ∧ w = w' := by
  have h0 : 0 < s.size := by omega
  go_enter Try.func22, Try.ntmps22
  go_wp2_with fail
  all_goals
    go_ret3
    rcases HD.out with ⟨c, k1, k2, k3⟩ | ⟨c, k1, k2, k3⟩
    all_goals
      first
        | (exfalso; omega)
        | exact ⟨ret3 (by omega) (by omega) k3.symm, rfl⟩

set_option maxHeartbeats 1000000 in
set_option maxRecDepth 100000 in
theorem rr2s (s : ByteArray) (w : World) (x0 : Nat) (R1 R2 : Int) (R3 : Bool) (hz : 0 < s.size) (hs : s.size ≤ 281474976710656) (e0 : (s[0]'(by omega)).toNat = x0) (l0 : (x0 : Int) ≤ 255)
    (a : 194 ≤ (x0 : Int)) (b : (x0 : Int) ≤ 223) (z : (s.size : Int) < 2) (HD : Hid ((False ∧ R1 = 0 ∧ R2 = 0 ∧ R3 = true) ∨ (True ∧ R1 = 65533 ∧ R2 = 1 ∧ R3 = false))) :
    Calls Try.prog 22 #[.string s] w fun e w' => e = .returned (.tuple #[.int .i64 R1, .int .i64 R2, .bool R3]) ∧ w = w' := by
  have h0 : 0 < s.size := by omega
  go_enter Try.func22, Try.ntmps22
  go_wp2_with fail
  all_goals
    go_ret3
    rcases HD.out with ⟨c, k1, k2, k3⟩ | ⟨c, k1, k2, k3⟩
    all_goals
      first
        | (exfalso; omega)
        | exact ⟨ret3 (by omega) (by omega) k3.symm, rfl⟩

set_option maxHeartbeats 1000000 in
set_option maxRecDepth 100000 in
theorem rr3s (s : ByteArray) (w : World) (x0 : Nat) (R1 R2 : Int) (R3 : Bool) (hz : 0 < s.size) (hs : s.size ≤ 281474976710656) (e0 : (s[0]'(by omega)).toNat = x0) (l0 : (x0 : Int) ≤ 255)
    (a : 224 ≤ (x0 : Int)) (b : (x0 : Int) ≤ 239) (z : (s.size : Int) < 3) (HD : Hid ((False ∧ R1 = 0 ∧ R2 = 0 ∧ R3 = true) ∨ (True ∧ R1 = 65533 ∧ R2 = 1 ∧ R3 = false))) :
    Calls Try.prog 22 #[.string s] w fun e w' => e = .returned (.tuple #[.int .i64 R1, .int .i64 R2, .bool R3]) ∧ w = w' := by
  have h0 : 0 < s.size := by omega
  go_enter Try.func22, Try.ntmps22
  go_wp2_with fail
  all_goals
    go_ret3
    rcases HD.out with ⟨c, k1, k2, k3⟩ | ⟨c, k1, k2, k3⟩
    all_goals
      first
        | (exfalso; omega)
        | exact ⟨ret3 (by omega) (by omega) k3.symm, rfl⟩

set_option maxHeartbeats 1000000 in
set_option maxRecDepth 100000 in
theorem rr4s (s : ByteArray) (w : World) (x0 : Nat) (R1 R2 : Int) (R3 : Bool) (hz : 0 < s.size) (hs : s.size ≤ 281474976710656) (e0 : (s[0]'(by omega)).toNat = x0) (l0 : (x0 : Int) ≤ 255)
    (a : 240 ≤ (x0 : Int)) (b : (x0 : Int) ≤ 244) (z : (s.size : Int) < 4) (HD : Hid ((False ∧ R1 = 0 ∧ R2 = 0 ∧ R3 = true) ∨ (True ∧ R1 = 65533 ∧ R2 = 1 ∧ R3 = false))) :
    Calls Try.prog 22 #[.string s] w fun e w' => e = .returned (.tuple #[.int .i64 R1, .int .i64 R2, .bool R3]) ∧ w = w' := by
  have h0 : 0 < s.size := by omega
  go_enter Try.func22, Try.ntmps22
  go_wp2_with fail
  all_goals
    go_ret3
    rcases HD.out with ⟨c, k1, k2, k3⟩ | ⟨c, k1, k2, k3⟩
    all_goals
      first
        | (exfalso; omega)
        | exact ⟨ret3 (by omega) (by omega) k3.symm, rfl⟩

set_option maxHeartbeats 1000000 in
set_option maxRecDepth 100000 in
theorem rr2 (s : ByteArray) (w : World) (x0 x1 : Nat) (R1 R2 : Int) (R3 : Bool) (hz : 2 ≤ s.size) (hs : s.size ≤ 281474976710656) (e0 : (s[0]'(by omega)).toNat = x0) (e1 : (s[1]'(by omega)).toNat = x1) (l0 : (x0 : Int) ≤ 255) (l1 : (x1 : Int) ≤ 255)
    (a : 194 ≤ (x0 : Int)) (b : (x0 : Int) ≤ 223) (z : 2 ≤ (s.size : Int)) (HD : Hid (((128 ≤ (x1 : Int) ∧ (x1 : Int) ≤ 191) ∧ R1 = ((x0 : Int) - 192) * 64 + ((x1 : Int) - 128) ∧ R2 = 2 ∧ R3 = true) ∨ (¬ ((128 ≤ (x1 : Int) ∧ (x1 : Int) ≤ 191)) ∧ R1 = 65533 ∧ R2 = 1 ∧ R3 = false))) :
    Calls Try.prog 22 #[.string s] w fun e w' => e = .returned (.tuple #[.int .i64 R1, .int .i64 R2, .bool R3]) ∧ w = w' := by
  have h0 : 0 < s.size := by omega
  have h1 : 1 < s.size := by omega
  go_enter Try.func22, Try.ntmps22
  go_wp2_with fail
  refine wp_loop_rounds 3 ?_
  all_goals (try (rw [rounds_succ]; go_wp2_with fail))
  all_goals (try (rw [rounds_succ]; go_wp2_with fail))
  all_goals
    go_ret3
    rcases HD.out with ⟨c, k1, k2, k3⟩ | ⟨c, k1, k2, k3⟩
    all_goals
      first
        | (exfalso; omega)
        | exact ⟨ret3 (by omega) (by omega) k3.symm, rfl⟩

set_option maxHeartbeats 1000000 in
set_option maxRecDepth 100000 in
theorem rr3 (s : ByteArray) (w : World) (x0 x1 x2 : Nat) (R1 R2 : Int) (R3 : Bool) (hz : 3 ≤ s.size) (hs : s.size ≤ 281474976710656) (e0 : (s[0]'(by omega)).toNat = x0) (e1 : (s[1]'(by omega)).toNat = x1) (e2 : (s[2]'(by omega)).toNat = x2) (l0 : (x0 : Int) ≤ 255) (l1 : (x1 : Int) ≤ 255) (l2 : (x2 : Int) ≤ 255)
    (a : 224 ≤ (x0 : Int)) (b : (x0 : Int) ≤ 239) (z : 3 ≤ (s.size : Int)) (HD : Hid ((((128 ≤ (x1 : Int) ∧ (x1 : Int) ≤ 191) ∧ (128 ≤ (x2 : Int) ∧ (x2 : Int) ≤ 191) ∧ ¬ ((((x0 : Int) - 224) * 64 + ((x1 : Int) - 128)) * 64 + ((x2 : Int) - 128) < 2048 ∨ (55296 ≤ (((x0 : Int) - 224) * 64 + ((x1 : Int) - 128)) * 64 + ((x2 : Int) - 128) ∧ (((x0 : Int) - 224) * 64 + ((x1 : Int) - 128)) * 64 + ((x2 : Int) - 128) ≤ 57343))) ∧ R1 = (((x0 : Int) - 224) * 64 + ((x1 : Int) - 128)) * 64 + ((x2 : Int) - 128) ∧ R2 = 3 ∧ R3 = true) ∨ (¬ (((128 ≤ (x1 : Int) ∧ (x1 : Int) ≤ 191) ∧ (128 ≤ (x2 : Int) ∧ (x2 : Int) ≤ 191) ∧ ¬ ((((x0 : Int) - 224) * 64 + ((x1 : Int) - 128)) * 64 + ((x2 : Int) - 128) < 2048 ∨ (55296 ≤ (((x0 : Int) - 224) * 64 + ((x1 : Int) - 128)) * 64 + ((x2 : Int) - 128) ∧ (((x0 : Int) - 224) * 64 + ((x1 : Int) - 128)) * 64 + ((x2 : Int) - 128) ≤ 57343)))) ∧ R1 = 65533 ∧ R2 = 1 ∧ R3 = false))) :
    Calls Try.prog 22 #[.string s] w fun e w' => e = .returned (.tuple #[.int .i64 R1, .int .i64 R2, .bool R3]) ∧ w = w' := by
  have h0 : 0 < s.size := by omega
  have h1 : 1 < s.size := by omega
  have h2 : 2 < s.size := by omega
  go_enter Try.func22, Try.ntmps22
  go_wp2_with fail
  refine wp_loop_rounds 4 ?_
  all_goals (try (rw [rounds_succ]; go_wp2_with fail))
  all_goals (try (rw [rounds_succ]; go_wp2_with fail))
  all_goals (try (rw [rounds_succ]; go_wp2_with fail))
  all_goals
    go_ret3
    rcases HD.out with ⟨c, k1, k2, k3⟩ | ⟨c, k1, k2, k3⟩
    all_goals
      first
        | (exfalso; omega)
        | exact ⟨ret3 (by omega) (by omega) k3.symm, rfl⟩

set_option maxHeartbeats 1000000 in
set_option maxRecDepth 100000 in
theorem rr4 (s : ByteArray) (w : World) (x0 x1 x2 x3 : Nat) (R1 R2 : Int) (R3 : Bool) (hz : 4 ≤ s.size) (hs : s.size ≤ 281474976710656) (e0 : (s[0]'(by omega)).toNat = x0) (e1 : (s[1]'(by omega)).toNat = x1) (e2 : (s[2]'(by omega)).toNat = x2) (e3 : (s[3]'(by omega)).toNat = x3) (l0 : (x0 : Int) ≤ 255) (l1 : (x1 : Int) ≤ 255) (l2 : (x2 : Int) ≤ 255) (l3 : (x3 : Int) ≤ 255)
    (a : 240 ≤ (x0 : Int)) (b : (x0 : Int) ≤ 244) (z : 4 ≤ (s.size : Int)) (HD : Hid ((((128 ≤ (x1 : Int) ∧ (x1 : Int) ≤ 191) ∧ (128 ≤ (x2 : Int) ∧ (x2 : Int) ≤ 191) ∧ (128 ≤ (x3 : Int) ∧ (x3 : Int) ≤ 191) ∧ ¬ (((((x0 : Int) - 240) * 64 + ((x1 : Int) - 128)) * 64 + ((x2 : Int) - 128)) * 64 + ((x3 : Int) - 128) < 65536 ∨ 1114111 < ((((x0 : Int) - 240) * 64 + ((x1 : Int) - 128)) * 64 + ((x2 : Int) - 128)) * 64 + ((x3 : Int) - 128))) ∧ R1 = ((((x0 : Int) - 240) * 64 + ((x1 : Int) - 128)) * 64 + ((x2 : Int) - 128)) * 64 + ((x3 : Int) - 128) ∧ R2 = 4 ∧ R3 = true) ∨ (¬ (((128 ≤ (x1 : Int) ∧ (x1 : Int) ≤ 191) ∧ (128 ≤ (x2 : Int) ∧ (x2 : Int) ≤ 191) ∧ (128 ≤ (x3 : Int) ∧ (x3 : Int) ≤ 191) ∧ ¬ (((((x0 : Int) - 240) * 64 + ((x1 : Int) - 128)) * 64 + ((x2 : Int) - 128)) * 64 + ((x3 : Int) - 128) < 65536 ∨ 1114111 < ((((x0 : Int) - 240) * 64 + ((x1 : Int) - 128)) * 64 + ((x2 : Int) - 128)) * 64 + ((x3 : Int) - 128)))) ∧ R1 = 65533 ∧ R2 = 1 ∧ R3 = false))) :
    Calls Try.prog 22 #[.string s] w fun e w' => e = .returned (.tuple #[.int .i64 R1, .int .i64 R2, .bool R3]) ∧ w = w' := by
  have h0 : 0 < s.size := by omega
  have h1 : 1 < s.size := by omega
  have h2 : 2 < s.size := by omega
  have h3 : 3 < s.size := by omega
  go_enter Try.func22, Try.ntmps22
  go_wp2_with fail
  refine wp_loop_rounds 5 ?_
  all_goals (try (rw [rounds_succ]; go_wp2_with fail))
  all_goals (try (rw [rounds_succ]; go_wp2_with fail))
  all_goals (try (rw [rounds_succ]; go_wp2_with fail))
  all_goals (try (rw [rounds_succ]; go_wp2_with fail))
  all_goals
    go_ret3
    rcases HD.out with ⟨c, k1, k2, k3⟩ | ⟨c, k1, k2, k3⟩
    all_goals
      first
        | (exfalso; omega)
        | exact ⟨ret3 (by omega) (by omega) k3.symm, rfl⟩
end Go.Proofs.Ytodalljccjcejaa
