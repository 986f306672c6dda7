import Derived.Test.YtebacdegjmcnlaaGreatNb
import Derived.LoopN
import Derived.LoopTactic
namespace Go.Proofs.YtebacdegjmcnlaaGreat.Nm
open Go.RowKit
set_option linter.unusedVariables false
theorem g_at {s : ByteArray} {k : Nat} (h : k < s.size) : Pl.g s.data.toList k = (s[k]'h).toNat := by
  have h1 : k < s.data.toList.length := by rw [Array.length_toList]; exact h
  unfold Pl.g
  rw [List.getElem?_eq_getElem h1, Array.getElem_toList]
  rfl
theorem ret3 {a b a' b' : Int} {c c' : Bool} (h : a = a') (k : b = b') (m : c = c') : Ending.returned (.tuple #[.int .i64 a, .int .i64 b, .bool c]) = .returned (.tuple #[.int .i64 a', .int .i64 b', .bool c']) := by rw [h, k, m]
set_option maxHeartbeats 1000000 in
set_option maxRecDepth 100000 in
theorem rr1 (s : ByteArray) (w : World) (x0 : Nat) (R1 R2 : Int) (R3 : Bool) (hz : 0 < s.size) (hs : s.size ≤ 281474976710656) (e0 : (s[0]'(by omega)).toNat = x0) (l0 : (x0 : Int) ≤ 255)
     (c0 : (x0 : Int) < 194 ∨ 245 ≤ (x0 : Int)) (HD : Hid (((x0 : Int) < 128 ∧ R1 = x0 ∧ R2 = 1 ∧ R3 = true) ∨ (128 ≤ (x0 : Int) ∧ R1 = 65533 ∧ R2 = 1 ∧ R3 = false))) :
    Calls Tryz.prog 110 #[.string s] w fun e w' => e = .returned (.tuple #[.int .i64 R1, .int .i64 R2, .bool R3]) ∧ w = w' := by
  have h0 : 0 < s.size := by omega
  go_enter Tryz.func110, Tryz.ntmps110
  go_wp2_with fail
  all_goals
    go_ret3
    rcases HD.out with ⟨c, k1, k2, k3⟩ | ⟨c, k1, k2, k3⟩
    all_goals
      first
        | (exfalso; omega)
        | exact ⟨ret3 (by omega) (by omega) k3.symm, rfl⟩
set_option maxHeartbeats 1000000 in
set_option maxRecDepth 100000 in
theorem rr2s (s : ByteArray) (w : World) (x0 : Nat) (R1 R2 : Int) (R3 : Bool) (hz : 0 < s.size) (hs : s.size ≤ 281474976710656) (e0 : (s[0]'(by omega)).toNat = x0) (l0 : (x0 : Int) ≤ 255)
    (a : 194 ≤ (x0 : Int)) (b : (x0 : Int) ≤ 223) (z : (s.size : Int) < 2) (HD : Hid ((False ∧ R1 = 0 ∧ R2 = 0 ∧ R3 = true) ∨ (True ∧ R1 = 65533 ∧ R2 = 1 ∧ R3 = false))) :
    Calls Tryz.prog 110 #[.string s] w fun e w' => e = .returned (.tuple #[.int .i64 R1, .int .i64 R2, .bool R3]) ∧ w = w' := by
  have h0 : 0 < s.size := by omega
  go_enter Tryz.func110, Tryz.ntmps110
  go_wp2_with fail
  all_goals
    go_ret3
    rcases HD.out with ⟨c, k1, k2, k3⟩ | ⟨c, k1, k2, k3⟩
    all_goals
      first
        | (exfalso; omega)
        | exact ⟨ret3 (by omega) (by omega) k3.symm, rfl⟩
set_option maxHeartbeats 1000000 in
set_option maxRecDepth 100000 in
theorem rr3s (s : ByteArray) (w : World) (x0 : Nat) (R1 R2 : Int) (R3 : Bool) (hz : 0 < s.size) (hs : s.size ≤ 281474976710656) (e0 : (s[0]'(by omega)).toNat = x0) (l0 : (x0 : Int) ≤ 255)
    (a : 224 ≤ (x0 : Int)) (b : (x0 : Int) ≤ 239) (z : (s.size : Int) < 3) (HD : Hid ((False ∧ R1 = 0 ∧ R2 = 0 ∧ R3 = true) ∨ (True ∧ R1 = 65533 ∧ R2 = 1 ∧ R3 = false))) :
    Calls Tryz.prog 110 #[.string s] w fun e w' => e = .returned (.tuple #[.int .i64 R1, .int .i64 R2, .bool R3]) ∧ w = w' := by
  have h0 : 0 < s.size := by omega
  go_enter Tryz.func110, Tryz.ntmps110
  go_wp2_with fail
  all_goals
    go_ret3
    rcases HD.out with ⟨c, k1, k2, k3⟩ | ⟨c, k1, k2, k3⟩
    all_goals
      first
        | (exfalso; omega)
        | exact ⟨ret3 (by omega) (by omega) k3.symm, rfl⟩
set_option maxHeartbeats 1000000 in
set_option maxRecDepth 100000 in
theorem rr4s (s : ByteArray) (w : World) (x0 : Nat) (R1 R2 : Int) (R3 : Bool) (hz : 0 < s.size) (hs : s.size ≤ 281474976710656) (e0 : (s[0]'(by omega)).toNat = x0) (l0 : (x0 : Int) ≤ 255)
    (a : 240 ≤ (x0 : Int)) (b : (x0 : Int) ≤ 244) (z : (s.size : Int) < 4) (HD : Hid ((False ∧ R1 = 0 ∧ R2 = 0 ∧ R3 = true) ∨ (True ∧ R1 = 65533 ∧ R2 = 1 ∧ R3 = false))) :
    Calls Tryz.prog 110 #[.string s] w fun e w' => e = .returned (.tuple #[.int .i64 R1, .int .i64 R2, .bool R3]) ∧ w = w' := by
  have h0 : 0 < s.size := by omega
  go_enter Tryz.func110, Tryz.ntmps110
  go_wp2_with fail
  all_goals
    go_ret3
    rcases HD.out with ⟨c, k1, k2, k3⟩ | ⟨c, k1, k2, k3⟩
    all_goals
      first
        | (exfalso; omega)
        | exact ⟨ret3 (by omega) (by omega) k3.symm, rfl⟩
set_option maxHeartbeats 1000000 in
set_option maxRecDepth 100000 in
theorem rr2 (s : ByteArray) (w : World) (x0 x1 : Nat) (R1 R2 : Int) (R3 : Bool) (hz : 2 ≤ s.size) (hs : s.size ≤ 281474976710656) (e0 : (s[0]'(by omega)).toNat = x0) (e1 : (s[1]'(by omega)).toNat = x1) (l0 : (x0 : Int) ≤ 255) (l1 : (x1 : Int) ≤ 255)
    (a : 194 ≤ (x0 : Int)) (b : (x0 : Int) ≤ 223) (z : 2 ≤ (s.size : Int)) (HD : Hid (((128 ≤ (x1 : Int) ∧ (x1 : Int) ≤ 191) ∧ R1 = ((x0 : Int) - 192) * 64 + ((x1 : Int) - 128) ∧ R2 = 2 ∧ R3 = true) ∨ (¬ ((128 ≤ (x1 : Int) ∧ (x1 : Int) ≤ 191)) ∧ R1 = 65533 ∧ R2 = 1 ∧ R3 = false))) :
    Calls Tryz.prog 110 #[.string s] w fun e w' => e = .returned (.tuple #[.int .i64 R1, .int .i64 R2, .bool R3]) ∧ w = w' := by
  have h0 : 0 < s.size := by omega
  have h1 : 1 < s.size := by omega
  go_enter Tryz.func110, Tryz.ntmps110
  go_wp2_with fail
  refine wp_loop_rounds 3 ?_
  all_goals (try (rw [rounds_succ]; go_wp2_with fail))
  all_goals (try (rw [rounds_succ]; go_wp2_with fail))
  all_goals
    go_ret3
    rcases HD.out with ⟨c, k1, k2, k3⟩ | ⟨c, k1, k2, k3⟩
    all_goals
      first
        | (exfalso; omega)
        | exact ⟨ret3 (by omega) (by omega) k3.symm, rfl⟩
set_option maxHeartbeats 1000000 in
set_option maxRecDepth 100000 in
theorem rr3 (s : ByteArray) (w : World) (x0 x1 x2 : Nat) (R1 R2 : Int) (R3 : Bool) (hz : 3 ≤ s.size) (hs : s.size ≤ 281474976710656) (e0 : (s[0]'(by omega)).toNat = x0) (e1 : (s[1]'(by omega)).toNat = x1) (e2 : (s[2]'(by omega)).toNat = x2) (l0 : (x0 : Int) ≤ 255) (l1 : (x1 : Int) ≤ 255) (l2 : (x2 : Int) ≤ 255)
    (a : 224 ≤ (x0 : Int)) (b : (x0 : Int) ≤ 239) (z : 3 ≤ (s.size : Int)) (HD : Hid ((((128 ≤ (x1 : Int) ∧ (x1 : Int) ≤ 191) ∧ (128 ≤ (x2 : Int) ∧ (x2 : Int) ≤ 191) ∧ ¬ ((((x0 : Int) - 224) * 64 + ((x1 : Int) - 128)) * 64 + ((x2 : Int) - 128) < 2048 ∨ (55296 ≤ (((x0 : Int) - 224) * 64 + ((x1 : Int) - 128)) * 64 + ((x2 : Int) - 128) ∧ (((x0 : Int) - 224) * 64 + ((x1 : Int) - 128)) * 64 + ((x2 : Int) - 128) ≤ 57343))) ∧ R1 = (((x0 : Int) - 224) * 64 + ((x1 : Int) - 128)) * 64 + ((x2 : Int) - 128) ∧ R2 = 3 ∧ R3 = true) ∨ (¬ (((128 ≤ (x1 : Int) ∧ (x1 : Int) ≤ 191) ∧ (128 ≤ (x2 : Int) ∧ (x2 : Int) ≤ 191) ∧ ¬ ((((x0 : Int) - 224) * 64 + ((x1 : Int) - 128)) * 64 + ((x2 : Int) - 128) < 2048 ∨ (55296 ≤ (((x0 : Int) - 224) * 64 + ((x1 : Int) - 128)) * 64 + ((x2 : Int) - 128) ∧ (((x0 : Int) - 224) * 64 + ((x1 : Int) - 128)) * 64 + ((x2 : Int) - 128) ≤ 57343)))) ∧ R1 = 65533 ∧ R2 = 1 ∧ R3 = false))) :
    Calls Tryz.prog 110 #[.string s] w fun e w' => e = .returned (.tuple #[.int .i64 R1, .int .i64 R2, .bool R3]) ∧ w = w' := by
  have h0 : 0 < s.size := by omega
  have h1 : 1 < s.size := by omega
  have h2 : 2 < s.size := by omega
  go_enter Tryz.func110, Tryz.ntmps110
  go_wp2_with fail
  refine wp_loop_rounds 4 ?_
  all_goals (try (rw [rounds_succ]; go_wp2_with fail))
  all_goals (try (rw [rounds_succ]; go_wp2_with fail))
  all_goals (try (rw [rounds_succ]; go_wp2_with fail))
  all_goals
    go_ret3
    rcases HD.out with ⟨c, k1, k2, k3⟩ | ⟨c, k1, k2, k3⟩
    all_goals
      first
        | (exfalso; omega)
        | exact ⟨ret3 (by omega) (by omega) k3.symm, rfl⟩
set_option maxHeartbeats 1000000 in
set_option maxRecDepth 100000 in
theorem rr4 (s : ByteArray) (w : World) (x0 x1 x2 x3 : Nat) (R1 R2 : Int) (R3 : Bool) (hz : 4 ≤ s.size) (hs : s.size ≤ 281474976710656) (e0 : (s[0]'(by omega)).toNat = x0) (e1 : (s[1]'(by omega)).toNat = x1) (e2 : (s[2]'(by omega)).toNat = x2) (e3 : (s[3]'(by omega)).toNat = x3) (l0 : (x0 : Int) ≤ 255) (l1 : (x1 : Int) ≤ 255) (l2 : (x2 : Int) ≤ 255) (l3 : (x3 : Int) ≤ 255)
    (a : 240 ≤ (x0 : Int)) (b : (x0 : Int) ≤ 244) (z : 4 ≤ (s.size : Int)) (HD : Hid ((((128 ≤ (x1 : Int) ∧ (x1 : Int) ≤ 191) ∧ (128 ≤ (x2 : Int) ∧ (x2 : Int) ≤ 191) ∧ (128 ≤ (x3 : Int) ∧ (x3 : Int) ≤ 191) ∧ ¬ (((((x0 : Int) - 240) * 64 + ((x1 : Int) - 128)) * 64 + ((x2 : Int) - 128)) * 64 + ((x3 : Int) - 128) < 65536 ∨ 1114111 < ((((x0 : Int) - 240) * 64 + ((x1 : Int) - 128)) * 64 + ((x2 : Int) - 128)) * 64 + ((x3 : Int) - 128))) ∧ R1 = ((((x0 : Int) - 240) * 64 + ((x1 : Int) - 128)) * 64 + ((x2 : Int) - 128)) * 64 + ((x3 : Int) - 128) ∧ R2 = 4 ∧ R3 = true) ∨ (¬ (((128 ≤ (x1 : Int) ∧ (x1 : Int) ≤ 191) ∧ (128 ≤ (x2 : Int) ∧ (x2 : Int) ≤ 191) ∧ (128 ≤ (x3 : Int) ∧ (x3 : Int) ≤ 191) ∧ ¬ (((((x0 : Int) - 240) * 64 + ((x1 : Int) - 128)) * 64 + ((x2 : Int) - 128)) * 64 + ((x3 : Int) - 128) < 65536 ∨ 1114111 < ((((x0 : Int) - 240) * 64 + ((x1 : Int) - 128)) * 64 + ((x2 : Int) - 128)) * 64 + ((x3 : Int) - 128)))) ∧ R1 = 65533 ∧ R2 = 1 ∧ R3 = false))) :
    Calls Tryz.prog 110 #[.string s] w fun e w' => e = .returned (.tuple #[.int .i64 R1, .int .i64 R2, .bool R3]) ∧ w = w' := by
  have h0 : 0 < s.size := by omega
  have h1 : 1 < s.size := by omega
  have h2 : 2 < s.size := by omega
  have h3 : 3 < s.size := by omega
  go_enter Tryz.func110, Tryz.ntmps110
  go_wp2_with fail
  refine wp_loop_rounds 5 ?_
  all_goals (try (rw [rounds_succ]; go_wp2_with fail))
  all_goals (try (rw [rounds_succ]; go_wp2_with fail))
  all_goals (try (rw [rounds_succ]; go_wp2_with fail))
  all_goals (try (rw [rounds_succ]; go_wp2_with fail))
  all_goals
    go_ret3
    rcases HD.out with ⟨c, k1, k2, k3⟩ | ⟨c, k1, k2, k3⟩
    all_goals
      first
        | (exfalso; omega)
        | exact ⟨ret3 (by omega) (by omega) k3.symm, rfl⟩
end Go.Proofs.YtebacdegjmcnlaaGreat.Nm
namespace Go.Proofs.YtebacdegjmcnlaaGreat.Nm
open Go.RowKit
set_option linter.unusedVariables false
theorem ct_iff {l : List UInt8} {k : Nat} (h : k < l.length) : Pl.ct l k = true ↔ (128 ≤ Pl.g l k ∧ Pl.g l k ≤ 191) := by
  unfold Pl.ct; simp [h]
theorem ct_out {l : List UInt8} {k : Nat} (h : ¬ k < l.length) : ¬ Pl.ct l k = true := by
  unfold Pl.ct; simp [h]
theorem bad1 : Pl.bad.1 = 65533 := rfl
theorem bad2 : Pl.bad.2.1 = 1 := rfl
theorem bad3 : Pl.bad.2.2 = false := rfl
theorem bad_ok {r : Nat × Nat × Bool} (h : r = Pl.bad) : (r.1 : Int) = 65533 ∧ (r.2.1 : Int) = 1 ∧ r.2.2 = false := by subst h; exact ⟨rfl, rfl, rfl⟩
theorem refRune_any (s : ByteArray) (w : World) (h : 0 < s.size) (hs : s.size ≤ 281474976710656) :
    Calls Tryz.prog 110 #[.string s] w fun e w' => e = .returned (.tuple #[.int .i64 ((Pl.rune s.data.toList).1 : Nat), .int .i64 ((Pl.rune s.data.toList).2.1 : Nat), .bool (Pl.rune s.data.toList).2.2]) ∧ w = w' := by
  have hl : s.data.toList.length = s.size := by rw [Array.length_toList]; rfl
  have q0 := g_at h
  have b0 := (s[0]'h).toNat_lt
  generalize hx0 : (s[0]'h).toNat = x0 at *
  by_cases c1 : 194 ≤ x0 ∧ x0 ≤ 223
  · have hr : Pl.rune s.data.toList = if Pl.ct s.data.toList 1 = true then ((Pl.g s.data.toList 0 - 192) * 64 + (Pl.g s.data.toList 1 - 128), 2, true) else Pl.bad := by
      unfold Pl.rune; rw [if_neg (by omega), if_pos (by omega)]
    by_cases z : 2 ≤ s.size
    · have q1 := g_at (s := s) (k := 1) (by omega)
      have b1 := (s[1]'(by omega)).toNat_lt
      refine rr2 s w x0 _ _ _ _ z hs hx0 rfl (by omega) (by omega) (by omega) (by omega) (by omega) ?_
      have k1 := ct_iff (l := s.data.toList) (k := 1) (by omega)
      rw [q1] at k1
      by_cases d : Pl.ct s.data.toList 1 = true
      · have := k1.1 d
        rw [hr, if_pos d, q0, q1]
        exact .inl ⟨by omega, by dsimp only; omega, rfl, rfl⟩
      · rw [hr, if_neg d]
        exact .inr ⟨fun e => d (k1.2 (by omega)), rfl, rfl, rfl⟩
    · refine rr2s s w x0 _ _ _ h hs hx0 (by omega) (by omega) (by omega) (by omega) ?_
      rw [hr, if_neg (ct_out (by omega))]
      exact .inr ⟨trivial, rfl, rfl, rfl⟩
  by_cases c2 : 224 ≤ x0 ∧ x0 ≤ 239
  · have hr : Pl.rune s.data.toList = if Pl.ct s.data.toList 1 = true ∧ Pl.ct s.data.toList 2 = true then
        if ((Pl.g s.data.toList 0 - 224) * 64 + (Pl.g s.data.toList 1 - 128)) * 64 + (Pl.g s.data.toList 2 - 128) < 2048 ∨ (55296 ≤ ((Pl.g s.data.toList 0 - 224) * 64 + (Pl.g s.data.toList 1 - 128)) * 64 + (Pl.g s.data.toList 2 - 128) ∧ ((Pl.g s.data.toList 0 - 224) * 64 + (Pl.g s.data.toList 1 - 128)) * 64 + (Pl.g s.data.toList 2 - 128) ≤ 57343) then Pl.bad
        else (((Pl.g s.data.toList 0 - 224) * 64 + (Pl.g s.data.toList 1 - 128)) * 64 + (Pl.g s.data.toList 2 - 128), 3, true)
      else Pl.bad := by
      unfold Pl.rune; rw [if_neg (by omega), if_neg (by omega), if_pos (by omega)]
    by_cases z : 3 ≤ s.size
    · have q1 := g_at (s := s) (k := 1) (by omega)
      have b1 := (s[1]'(by omega)).toNat_lt
      have q2 := g_at (s := s) (k := 2) (by omega)
      have b2 := (s[2]'(by omega)).toNat_lt
      refine rr3 s w x0 _ _ _ _ _ z hs hx0 rfl rfl (by omega) (by omega) (by omega) (by omega) (by omega) (by omega) ?_
      have k1 := ct_iff (l := s.data.toList) (k := 1) (by omega)
      have k2 := ct_iff (l := s.data.toList) (k := 2) (by omega)
      rw [q1] at k1
      rw [q2] at k2
      by_cases d : Pl.ct s.data.toList 1 = true ∧ Pl.ct s.data.toList 2 = true
      · have m1 := k1.1 d.1
        have m2 := k2.1 d.2
        rw [hr, if_pos d, q0, q1, q2]
        split
        · exact .inr ⟨fun e => by omega, rfl, rfl, rfl⟩
        · exact .inl ⟨by omega, by dsimp only; omega, rfl, rfl⟩
      · rw [hr, if_neg d]
        exact .inr ⟨fun e => d ⟨k1.2 (by omega), k2.2 (by omega)⟩, rfl, rfl, rfl⟩
    · refine rr3s s w x0 _ _ _ h hs hx0 (by omega) (by omega) (by omega) (by omega) ?_
      rw [hr, if_neg (fun e => ct_out (k := 2) (by omega) e.2)]
      exact .inr ⟨trivial, rfl, rfl, rfl⟩
  by_cases c3 : 240 ≤ x0 ∧ x0 ≤ 244
  · have hr : Pl.rune s.data.toList = if Pl.ct s.data.toList 1 = true ∧ Pl.ct s.data.toList 2 = true ∧ Pl.ct s.data.toList 3 = true then
        if (((Pl.g s.data.toList 0 - 240) * 64 + (Pl.g s.data.toList 1 - 128)) * 64 + (Pl.g s.data.toList 2 - 128)) * 64 + (Pl.g s.data.toList 3 - 128) < 65536 ∨ 1114111 < (((Pl.g s.data.toList 0 - 240) * 64 + (Pl.g s.data.toList 1 - 128)) * 64 + (Pl.g s.data.toList 2 - 128)) * 64 + (Pl.g s.data.toList 3 - 128) then Pl.bad
        else ((((Pl.g s.data.toList 0 - 240) * 64 + (Pl.g s.data.toList 1 - 128)) * 64 + (Pl.g s.data.toList 2 - 128)) * 64 + (Pl.g s.data.toList 3 - 128), 4, true)
      else Pl.bad := by
      unfold Pl.rune; rw [if_neg (by omega), if_neg (by omega), if_neg (by omega), if_pos (by omega)]
    by_cases z : 4 ≤ s.size
    · have q1 := g_at (s := s) (k := 1) (by omega)
      have b1 := (s[1]'(by omega)).toNat_lt
      have q2 := g_at (s := s) (k := 2) (by omega)
      have b2 := (s[2]'(by omega)).toNat_lt
      have q3 := g_at (s := s) (k := 3) (by omega)
      have b3 := (s[3]'(by omega)).toNat_lt
      refine rr4 s w x0 _ _ _ _ _ _ z hs hx0 rfl rfl rfl (by omega) (by omega) (by omega) (by omega) (by omega) (by omega) (by omega) ?_
      have k1 := ct_iff (l := s.data.toList) (k := 1) (by omega)
      have k2 := ct_iff (l := s.data.toList) (k := 2) (by omega)
      have k3 := ct_iff (l := s.data.toList) (k := 3) (by omega)
      rw [q1] at k1
      rw [q2] at k2
      rw [q3] at k3
      by_cases d : Pl.ct s.data.toList 1 = true ∧ Pl.ct s.data.toList 2 = true ∧ Pl.ct s.data.toList 3 = true
      · have m1 := k1.1 d.1
        have m2 := k2.1 d.2.1
        have m3 := k3.1 d.2.2
        rw [hr, if_pos d, q0, q1, q2, q3]
        split
        · exact .inr ⟨fun e => by omega, rfl, rfl, rfl⟩
        · exact .inl ⟨by omega, by dsimp only; omega, rfl, rfl⟩
      · rw [hr, if_neg d]
        exact .inr ⟨fun e => d ⟨k1.2 (by omega), k2.2 (by omega), k3.2 (by omega)⟩, rfl, rfl, rfl⟩
    · refine rr4s s w x0 _ _ _ h hs hx0 (by omega) (by omega) (by omega) (by omega) ?_
      rw [hr, if_neg (fun e => ct_out (k := 3) (by omega) e.2.2)]
      exact .inr ⟨trivial, rfl, rfl, rfl⟩
  · refine rr1 s w x0 _ _ _ h hs hx0 (by omega) (by omega) ?_
    by_cases d : x0 < 128
    · have hr : Pl.rune s.data.toList = (Pl.g s.data.toList 0, 1, true) := by unfold Pl.rune; rw [if_pos (by omega)]
      rw [hr, q0]
      exact .inl ⟨by omega, rfl, rfl, rfl⟩
    · have hr : Pl.rune s.data.toList = Pl.bad := by unfold Pl.rune; rw [if_neg (by omega), if_neg (by omega), if_neg (by omega), if_neg (by omega)]
      rw [hr]
      exact .inr ⟨by omega, rfl, rfl, rfl⟩
theorem refRune_str (l : List UInt8) (w : World) (h : l ≠ []) (hs : l.length ≤ 281474976710656) :
    Calls Tryz.prog 110 #[.string (str l)] w fun e w' => e = .returned (.tuple #[.int .i64 ((Pl.rune l).1 : Nat), .int .i64 ((Pl.rune l).2.1 : Nat), .bool (Pl.rune l).2.2]) ∧ w = w' :=
  refRune_any (str l) w (by rw [str_size]; exact List.length_pos_iff.2 h) (by rw [str_size]; exact hs)
end Go.Proofs.YtebacdegjmcnlaaGreat.Nm
namespace Go.Proofs.YtebacdegjmcnlaaGreat.Nm
open Go.RowKit
set_option linter.unusedVariables false
/-- a text behind its first n bytes, as the walk spells it -/
theorem extract_rest (l : List UInt8) (n : Nat) (z : Nat) (hz : z = l.length) : (str l).extract n z = str (l.drop n) := by
  subst hz
  rw [← str_size l, extract_back]; rfl
def szOf : Value → Nat
  | .string s => s.size
  | _ => 0
set_option maxHeartbeats 1000000 in
set_option maxRecDepth 100000 in
theorem refRunes_str (l : List UInt8) (w : World) (hs : l.length ≤ 281474976710656) :
    Calls Tryz.prog 109 #[.string (str l)] w fun e w' => e = .returned (.tuple #[.int .i64 ((Pl.runes l).length : Nat), .bool (Pl.okay l)]) ∧ w = w' := by
  have htot := Pl.runes_len l
  generalize hS : str l = S at *
  have HS := Lib.hid hS
  clear hS
  go_enter Tryz.func109, Tryz.ntmps109
  go_wp2_with fail
  go_loop [0, 4, 5] (fun t n v => ∃ (m : List UInt8) (k : Nat) (b : Bool), t = .string (str m) ∧ n = .int .i64 (k : Nat) ∧ v = .bool b ∧ m.length ≤ l.length ∧ k + (Pl.runes m).length = (Pl.runes l).length ∧ (b && Pl.okay m) = Pl.okay l) (fun t _ _ => szOf t)
  case atStart => exact ⟨l, 0, true, by rw [HS.out], rfl, rfl, Nat.le_refl _, by omega, by simp⟩
  case round =>
    obtain ⟨m, k, b, rfl, rfl, rfl, hm, hk, hb⟩ := hrel
    have hsz := str_size m
    by_cases hne : m = []
    · subst hne
      rw [Pl.okay_nil, Bool.and_true] at hb
      rw [Pl.runes_nil] at hk
      subst hb
      have HK := Lib.hid hk
      clear hk
      have e0 : str [] = (⟨#[]⟩ : ByteArray) := rfl
      rw [e0] at *
      go_wp2_with fail
      go_ret2
      refine ⟨?_, rfl⟩
      rw [← HK.out]
      rfl
    · have hbd := Pl.rune_bd m hne
      have c1 := Lib.hid (refRune_str m w hne (by omega))
      have HE := Lib.hid (extract_rest m (Pl.rune m).2.1 (str m).size hsz)
      rw [Pl.runes_cons hne, List.length_cons] at hk
      rw [Pl.okay_cons hne] at hb
      have HK := Lib.hid hk
      have HBB := Lib.hid hb
      have h0 : 0 < (str m).size := by omega
      have hle : (Pl.rune m).2.1 ≤ (str m).size := by omega
      have HD := Lib.hid (List.length_drop (i := (Pl.rune m).2.1) (l := m))
      have HSZ := Lib.hid hsz
      have hs2 : (str m).size ≤ 281474976710656 := by omega
      have hk2 : (k : Int) ≤ 281474976710656 := by omega
      have HW := Lib.hid hbd
      clear hk hb hsz
      generalize str m = M at *
      generalize hr : Pl.rune m = r at *
      clear hbd
      go_wp2_with fail
      refine c1.out.mono ?_
      rintro e w' ⟨rfl, rfl⟩
      go_wp2_with fail
      · have hb : b = true := by assumption
        subst hb
        have hd := HD.out
        have hkk := HK.out
        have hw := HW.out
        have hz := HSZ.out
        refine ⟨⟨m.drop r.2.1, k + 1, r.2.2, by rw [HE.out], rfl, rfl, by omega, by omega, by rw [← HBB.out]; rfl⟩, ?_⟩
        show (M.extract r.2.1 M.size).size < M.size
        rw [HE.out, str_size, hd]
        omega
      · have hb : ¬ b = true := by assumption
        have hb := Bool.eq_false_iff.2 hb
        subst hb
        have hd := HD.out
        have hkk := HK.out
        have hw := HW.out
        have hz := HSZ.out
        refine ⟨⟨m.drop r.2.1, k + 1, false, by rw [HE.out], rfl, rfl, by omega, by omega, by rw [← HBB.out]; rfl⟩, ?_⟩
        show (M.extract r.2.1 M.size).size < M.size
        rw [HE.out, str_size, hd]
        omega
theorem alw_right {l : List UInt8} (h : alw (Pl.rune l).1 = true) : (Pl.rune l).2.2 = true := by
  cases hr : (Pl.rune l).2.2
  · rw [Pl.rune_bad hr] at h; cases h
  · rfl
theorem alw_okay (l : List UInt8) (h : (Pl.nums l).all alw = true) : Pl.okay l = true := by
  by_cases hl : l = []
  · subst hl; exact Pl.okay_nil
  · rw [Pl.nums_cons hl, List.all_cons, Bool.and_eq_true] at h
    have hbd := Pl.rune_bd l hl
    rw [Pl.okay_cons hl, alw_right h.1, Bool.true_and]
    exact alw_okay _ h.2
termination_by l.length
decreasing_by
  rw [List.length_drop]
  omega
theorem alw_is (c : Nat) : (alw c = true ∧ 33 ≤ (c : Int) ∧ ¬ (127 ≤ (c : Int) ∧ (c : Int) ≤ 160) ∧ (c : Int) ≠ 8232 ∧ (c : Int) ≠ 8233 ∧ (c : Int) ≠ 65533) ∨ (alw c = false ∧ ((c : Int) < 33 ∨ (127 ≤ (c : Int) ∧ (c : Int) ≤ 160) ∨ (c : Int) = 8232 ∨ (c : Int) = 8233 ∨ (c : Int) = 65533)) := by
  have h := alw_iff c
  cases hc : alw c
  · right
    rw [hc] at h
    refine ⟨rfl, ?_⟩
    by_cases q : (33 ≤ c ∧ ¬ (127 ≤ c ∧ c ≤ 160) ∧ c ≠ 8232 ∧ c ≠ 8233 ∧ c ≠ 65533)
    · exact absurd (h.2 q) (by decide)
    · omega
  · left
    have := h.1 hc
    exact ⟨rfl, by omega, by omega, by omega, by omega, by omega⟩
set_option maxHeartbeats 2000000 in
set_option maxRecDepth 100000 in
theorem refMay_str (l : List UInt8) (w : World) (hs : l.length ≤ 281474976710656) :
    Calls Tryz.prog 95 #[.string (str l)] w fun e w' => e = .returned (.bool (may l)) ∧ w = w' := by
  have HM := Lib.hid (may_iff l)
  have HO := Lib.hid (alw_okay l)
  have c1 := Lib.hid (refRunes_str l w hs)
  by_cases hl : l = []
  · subst hl
    have e1 : may [] = false := by decide +kernel
    have e2 : (Pl.runes []).length = 0 := by rw [Pl.runes_nil]; rfl
    rw [e2] at c1
    rw [e1]
    generalize str [] = S at *
    go_enter Tryz.func95, Tryz.ntmps95
    go_wp2_with fail
    refine c1.out.mono ?_
    rintro e w' ⟨rfl, rfl⟩
    go_wp2_with fail
    go_ret
    exact ⟨rfl, rfl⟩
  have hz := str_size l
  have h0 : 0 < (str l).size := by rw [hz]; exact List.length_pos_iff.2 hl
  have hg : ((str l)[0]'h0).toNat = Pl.g l 0 := (g_at (s := str l) h0).symm
  have hrl : 1 ≤ (Pl.runes l).length := by rw [Pl.runes_cons hl]; simp
  have hrs := Pl.runes_len l
  have hgl := Pl.g_le l 0
  generalize may l = M at *
  generalize hT : (Pl.runes l).length = T at *
  generalize Pl.g l 0 = x0 at *
  generalize hok : Pl.okay l = O at *
  generalize hS : str l = S at *
  have HS := Lib.hid hS
  clear hS
  have hx1 : (x0 : Int) ≤ 255 := by omega
  by_cases h24 : 24 < (T : Int)
  · go_enter Tryz.func95, Tryz.ntmps95
    go_wp2_with fail
    refine c1.out.mono ?_
    rintro e w' ⟨rfl, rfl⟩
    go_wp2_with fail
    go_ret
    exact ⟨ret_f (fun h => by have := HM.out.1 h; omega), rfl⟩
  cases O with
  | false =>
    go_enter Tryz.func95, Tryz.ntmps95
    go_wp2_with fail
    refine c1.out.mono ?_
    rintro e w' ⟨rfl, rfl⟩
    go_wp2_with fail
    go_ret
    refine ⟨ret_f (fun h => ?_), rfl⟩
    have := HO.out (HM.out.1 h).2.2.1
    cases this
  | true =>
    by_cases hd : (x0 : Int) = 45
    · go_enter Tryz.func95, Tryz.ntmps95
      go_wp2_with fail
      refine c1.out.mono ?_
      rintro e w' ⟨rfl, rfl⟩
      go_wp2_with fail
      go_ret
      exact ⟨ret_f (fun h => by have := HM.out.1 h; omega), rfl⟩
    · have HE := Lib.hid (show M = (Pl.nums l).all alw by rw [Bool.eq_iff_iff, HM.out]; exact ⟨fun h => h.2.2.1, fun h => ⟨hrl, by omega, h, by omega⟩⟩)
      have HZ := Lib.hid hz
      have hdb : ((x0 : Int) == 45) = false := beq_eq_false_iff_ne.2 hd
      have h24' : (T : Int) ≤ 24 := by omega
      have h1' : 1 ≤ (T : Int) := by omega
      clear HM hok hT hz hd h24
      go_enter Tryz.func95, Tryz.ntmps95
      go_wp2_with fail
      refine c1.out.mono ?_
      rintro e w' ⟨rfl, rfl⟩
      go_wp2_with fail
      go_loop [0] (fun t => ∃ (m : List UInt8), t = .string (str m) ∧ m.length ≤ l.length ∧ (Pl.nums m).all alw = (Pl.nums l).all alw) (fun t => szOf t)
      case atStart => exact ⟨l, by rw [HS.out], Nat.le_refl _, rfl⟩
      case round =>
        obtain ⟨m, rfl, hm, ha⟩ := hrel
        by_cases hne : m = []
        · subst hne
          rw [Pl.nums_nil] at ha
          have HA := Lib.hid ha
          have e0 : str [] = (⟨#[]⟩ : ByteArray) := rfl
          rw [e0] at *
          clear ha
          go_wp2_with fail
          go_ret
          exact ⟨ret_b (by rw [HE.out, ← HA.out]; rfl), rfl⟩
        · have hbd := Pl.rune_bd m hne
          have hzm := str_size m
          have c2 := Lib.hid (refRune_str m w hne (by omega))
          have HX := Lib.hid (extract_rest m (Pl.rune m).2.1 (str m).size hzm)
          rw [Pl.nums_cons hne, List.all_cons] at ha
          have HA := Lib.hid ha
          have h0m : 0 < (str m).size := by omega
          have hle : (Pl.rune m).2.1 ≤ (str m).size := by omega
          have hs3 : (str m).size ≤ 281474976710656 := by omega
          have HD := Lib.hid (show (m.drop (Pl.rune m).2.1).length + (Pl.rune m).2.1 = (str m).size ∧ (m.drop (Pl.rune m).2.1).length ≤ l.length ∧ 1 ≤ (Pl.rune m).2.1 by rw [List.length_drop]; omega)
          have hal := alw_is (Pl.rune m).1
          clear ha hzm hbd
          generalize str m = Q at *
          generalize hr : Pl.rune m = r at *
          have HAL := Lib.hid hal
          clear hal
          go_wp2_with fail
          refine c2.out.mono ?_
          rintro e w' ⟨rfl, rfl⟩
          go_wp2_with fail
          all_goals
            try simp only [beq_iff_eq, beq_eq_false_iff_ne] at *
            rcases HAL.out with ⟨q, q1, q2, q3, q4, q5⟩ | ⟨q, q1⟩
            all_goals
              first
                | (exfalso; omega)
                | (go_ret
                   refine ⟨ret_f ?_, rfl⟩
                   rw [HE.out, ← HA.out, q]
                   simp)
                | (have hd := HD.out
                   refine ⟨⟨m.drop r.2.1, by rw [HX.out], hd.2.1, by rw [← HA.out, q, Bool.true_and]⟩, ?_⟩
                   show (Q.extract r.2.1 Q.size).size < Q.size
                   rw [HX.out, str_size]
                   omega)
end Go.Proofs.YtebacdegjmcnlaaGreat.Nm
