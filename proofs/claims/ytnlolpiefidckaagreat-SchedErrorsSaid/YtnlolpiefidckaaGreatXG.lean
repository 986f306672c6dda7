import Derived.Test.YtnlolpiefidckaaGreatXC
import Derived.LoopN
import Derived.LoopTactic
import Derived.Shelf.Strings.BuilderK
import Derived.Shelf.Strings.BuilderRune
namespace Go.Proofs.YtnlolpiefidckaaGreat.Nm
open Go.RowKit
set_option linter.unusedVariables false

theorem g_at {s : ByteArray} {k : Nat} (h : k < s.size) : Pl.g s.data.toList k = (s[k]'h).toNat := by
  have h1 : k < s.data.toList.length := by rw [Array.length_toList]; exact h
  unfold Pl.g
  rw [List.getElem?_eq_getElem h1, Array.getElem_toList]
  rfl
theorem ret3 {a b a' b' : Int} {c c' : Bool} (h : a = a') (k : b = b') (m : c = c') : Ending.returned (.tuple #[.int .i64 a, .int .i64 b, .bool c]) = .returned (.tuple #[.int .i64 a', .int .i64 b', .bool c']) := by rw [h, k, m]

set_option maxHeartbeats 1000000 in
set_option maxRecDepth 100000 in
theorem rr1 (s : ByteArray) (w : World) (x0 : Nat) (R1 R2 : Int) (R3 : Bool) (hz : 0 < s.size) (hs : s.size ≤ 281474976710656) (e0 : (s[0]'(by omega)).toNat = x0) (l0 : (x0 : Int) ≤ 255)
     (c0 : (x0 : Int) < 194 ∨ 245 ≤ (x0 : Int)) (HD : Hid (((x0 : Int) < 128 ∧ R1 = x0 ∧ R2 = 1 ∧ R3 = true) ∨ (128 ≤ (x0 : Int) ∧ R1 = 65533 ∧ R2 = 1 ∧ R3 = false))) :
    Calls Tryz.prog 113 #[.string s] w fun e w' => e = .returned (.tuple #[.int .i64 R1, .int .i64 R2, .bool R3]) ∧ w = w' := by
  have h0 : 0 < s.size := by omega
  go_enter Tryz.func113, Tryz.ntmps113
  go_wp2_with fail
  all_goals
    go_ret3
    rcases HD.out with ⟨c, k1, k2, k3⟩ | ⟨c, k1, k2, k3⟩
    all_goals
      first
        | (exfalso; omega)
        | exact ⟨ret3 (by omega) (by omega) k3.symm, rfl⟩

set_option maxHeartbeats 1000000 in
set_option maxRecDepth 100000 in
theorem rr2s (s : ByteArray) (w : World) (x0 : Nat) (R1 R2 : Int) (R3 : Bool) (hz : 0 < s.size) (hs : s.size ≤ 281474976710656) (e0 : (s[0]'(by omega)).toNat = x0) (l0 : (x0 : Int) ≤ 255)
    (a : 194 ≤ (x0 : Int)) (b : (x0 : Int) ≤ 223) (z : (s.size : Int) < 2) (HD : Hid ((False ∧ R1 = 0 ∧ R2 = 0 ∧ R3 = true) ∨ (True ∧ R1 = 65533 ∧ R2 = 1 ∧ R3 = false))) :
    Calls Tryz.prog 113 #[.string s] w fun e w' => e = .returned (.tuple #[.int .i64 R1, .int .i64 R2, .bool R3]) ∧ w = w' := by
  have h0 : 0 < s.size := by omega
  go_enter Tryz.func113, Tryz.ntmps113
  go_wp2_with fail
  all_goals
    go_ret3
    rcases HD.out with ⟨c, k1, k2, k3⟩ | ⟨c, k1, k2, k3⟩
    all_goals
      first
        | (exfalso; omega)
        | exact ⟨ret3 (by omega) (by omega) k3.symm, rfl⟩

set_option maxHeartbeats 1000000 in
set_option maxRecDepth 100000 in
theorem rr3s (s : ByteArray) (w : World) (x0 : Nat) (R1 R2 : Int) (R3 : Bool) (hz : 0 < s.size) (hs : s.size ≤ 281474976710656) (e0 : (s[0]'(by omega)).toNat = x0) (l0 : (x0 : Int) ≤ 255)
    (a : 224 ≤ (x0 : Int)) (b : (x0 : Int) ≤ 239) (z : (s.size : Int) < 3) (HD : Hid ((False ∧ R1 = 0 ∧ R2 = 0 ∧ R3 = true) ∨ (True ∧ R1 = 65533 ∧ R2 = 1 ∧ R3 = false))) :
    Calls Tryz.prog 113 #[.string s] w fun e w' => e = .returned (.tuple #[.int .i64 R1, .int .i64 R2, .bool R3]) ∧ w = w' := by
  have h0 : 0 < s.size := by omega
  go_enter Tryz.func113, Tryz.ntmps113
  go_wp2_with fail
  all_goals
    go_ret3
    rcases HD.out with ⟨c, k1, k2, k3⟩ | ⟨c, k1, k2, k3⟩
    all_goals
      first
        | (exfalso; omega)
        | exact ⟨ret3 (by omega) (by omega) k3.symm, rfl⟩

set_option maxHeartbeats 1000000 in
set_option maxRecDepth 100000 in
theorem rr4s (s : ByteArray) (w : World) (x0 : Nat) (R1 R2 : Int) (R3 : Bool) (hz : 0 < s.size) (hs : s.size ≤ 281474976710656) (e0 : (s[0]'(by omega)).toNat = x0) (l0 : (x0 : Int) ≤ 255)
    (a : 240 ≤ (x0 : Int)) (b : (x0 : Int) ≤ 244) (z : (s.size : Int) < 4) (HD : Hid ((False ∧ R1 = 0 ∧ R2 = 0 ∧ R3 = true) ∨ (True ∧ R1 = 65533 ∧ R2 = 1 ∧ R3 = false))) :
    Calls Tryz.prog 113 #[.string s] w fun e w' => e = .returned (.tuple #[.int .i64 R1, .int .i64 R2, .bool R3]) ∧ w = w' := by
  have h0 : 0 < s.size := by omega
  go_enter Tryz.func113, Tryz.ntmps113
  go_wp2_with fail
  all_goals
    go_ret3
    rcases HD.out with ⟨c, k1, k2, k3⟩ | ⟨c, k1, k2, k3⟩
    all_goals
      first
        | (exfalso; omega)
        | exact ⟨ret3 (by omega) (by omega) k3.symm, rfl⟩

set_option maxHeartbeats 1000000 in
set_option maxRecDepth 100000 in
theorem rr2 (s : ByteArray) (w : World) (x0 x1 : Nat) (R1 R2 : Int) (R3 : Bool) (hz : 2 ≤ s.size) (hs : s.size ≤ 281474976710656) (e0 : (s[0]'(by omega)).toNat = x0) (e1 : (s[1]'(by omega)).toNat = x1) (l0 : (x0 : Int) ≤ 255) (l1 : (x1 : Int) ≤ 255)
    (a : 194 ≤ (x0 : Int)) (b : (x0 : Int) ≤ 223) (z : 2 ≤ (s.size : Int)) (HD : Hid (((128 ≤ (x1 : Int) ∧ (x1 : Int) ≤ 191) ∧ R1 = ((x0 : Int) - 192) * 64 + ((x1 : Int) - 128) ∧ R2 = 2 ∧ R3 = true) ∨ (¬ ((128 ≤ (x1 : Int) ∧ (x1 : Int) ≤ 191)) ∧ R1 = 65533 ∧ R2 = 1 ∧ R3 = false))) :
    Calls Tryz.prog 113 #[.string s] w fun e w' => e = .returned (.tuple #[.int .i64 R1, .int .i64 R2, .bool R3]) ∧ w = w' := by
  have h0 : 0 < s.size := by omega
  have h1 : 1 < s.size := by omega
  go_enter Tryz.func113, Tryz.ntmps113
  go_wp2_with fail
  refine wp_loop_rounds 3 ?_
  all_goals (try (rw [rounds_succ]; go_wp2_with fail))
  all_goals (try (rw [rounds_succ]; go_wp2_with fail))
  all_goals
    go_ret3
    rcases HD.out with ⟨c, k1, k2, k3⟩ | ⟨c, k1, k2, k3⟩
    all_goals
      first
        | (exfalso; omega)
        | exact ⟨ret3 (by omega) (by omega) k3.symm, rfl⟩

set_option maxHeartbeats 1000000 in
set_option maxRecDepth 100000 in
theorem rr3 (s : ByteArray) (w : World) (x0 x1 x2 : Nat) (R1 R2 : Int) (R3 : Bool) (hz : 3 ≤ s.size) (hs : s.size ≤ 281474976710656) (e0 : (s[0]'(by omega)).toNat = x0) (e1 : (s[1]'(by omega)).toNat = x1) (e2 : (s[2]'(by omega)).toNat = x2) (l0 : (x0 : Int) ≤ 255) (l1 : (x1 : Int) ≤ 255) (l2 : (x2 : Int) ≤ 255)
    (a : 224 ≤ (x0 : Int)) (b : (x0 : Int) ≤ 239) (z : 3 ≤ (s.size : Int)) (HD : Hid ((((128 ≤ (x1 : Int) ∧ (x1 : Int) ≤ 191) ∧ (128 ≤ (x2 : Int) ∧ (x2 : Int) ≤ 191) ∧ ¬ ((((x0 : Int) - 224) * 64 + ((x1 : Int) - 128)) * 64 + ((x2 : Int) - 128) < 2048 ∨ (55296 ≤ (((x0 : Int) - 224) * 64 + ((x1 : Int) - 128)) * 64 + ((x2 : Int) - 128) ∧ (((x0 : Int) - 224) * 64 + ((x1 : Int) - 128)) * 64 + ((x2 : Int) - 128) ≤ 57343))) ∧ R1 = (((x0 : Int) - 224) * 64 + ((x1 : Int) - 128)) * 64 + ((x2 : Int) - 128) ∧ R2 = 3 ∧ R3 = true) ∨ (¬ (((128 ≤ (x1 : Int) ∧ (x1 : Int) ≤ 191) ∧ (128 ≤ (x2 : Int) ∧ (x2 : Int) ≤ 191) ∧ ¬ ((((x0 : Int) - 224) * 64 + ((x1 : Int) - 128)) * 64 + ((x2 : Int) - 128) < 2048 ∨ (55296 ≤ (((x0 : Int) - 224) * 64 + ((x1 : Int) - 128)) * 64 + ((x2 : Int) - 128) ∧ (((x0 : Int) - 224) * 64 + ((x1 : Int) - 128)) * 64 + ((x2 : Int) - 128) ≤ 57343)))) ∧ R1 = 65533 ∧ R2 = 1 ∧ R3 = false))) :
    Calls Tryz.prog 113 #[.string s] w fun e w' => e = .returned (.tuple #[.int .i64 R1, .int .i64 R2, .bool R3]) ∧ w = w' := by
  have h0 : 0 < s.size := by omega
  have h1 : 1 < s.size := by omega
  have h2 : 2 < s.size := by omega
  go_enter Tryz.func113, Tryz.ntmps113
  go_wp2_with fail
  refine wp_loop_rounds 4 ?_
  all_goals (try (rw [rounds_succ]; go_wp2_with fail))
  all_goals (try (rw [rounds_succ]; go_wp2_with fail))
  all_goals (try (rw [rounds_succ]; go_wp2_with fail))
  all_goals
    go_ret3
    rcases HD.out with ⟨c, k1, k2, k3⟩ | ⟨c, k1, k2, k3⟩
    all_goals
      first
        | (exfalso; omega)
        | exact ⟨ret3 (by omega) (by omega) k3.symm, rfl⟩

set_option maxHeartbeats 1000000 in
set_option maxRecDepth 100000 in
theorem rr4 (s : ByteArray) (w : World) (x0 x1 x2 x3 : Nat) (R1 R2 : Int) (R3 : Bool) (hz : 4 ≤ s.size) (hs : s.size ≤ 281474976710656) (e0 : (s[0]'(by omega)).toNat = x0) (e1 : (s[1]'(by omega)).toNat = x1) (e2 : (s[2]'(by omega)).toNat = x2) (e3 : (s[3]'(by omega)).toNat = x3) (l0 : (x0 : Int) ≤ 255) (l1 : (x1 : Int) ≤ 255) (l2 : (x2 : Int) ≤ 255) (l3 : (x3 : Int) ≤ 255)
    (a : 240 ≤ (x0 : Int)) (b : (x0 : Int) ≤ 244) (z : 4 ≤ (s.size : Int)) (HD : Hid ((((128 ≤ (x1 : Int) ∧ (x1 : Int) ≤ 191) ∧ (128 ≤ (x2 : Int) ∧ (x2 : Int) ≤ 191) ∧ (128 ≤ (x3 : Int) ∧ (x3 : Int) ≤ 191) ∧ ¬ (((((x0 : Int) - 240) * 64 + ((x1 : Int) - 128)) * 64 + ((x2 : Int) - 128)) * 64 + ((x3 : Int) - 128) < 65536 ∨ 1114111 < ((((x0 : Int) - 240) * 64 + ((x1 : Int) - 128)) * 64 + ((x2 : Int) - 128)) * 64 + ((x3 : Int) - 128))) ∧ R1 = ((((x0 : Int) - 240) * 64 + ((x1 : Int) - 128)) * 64 + ((x2 : Int) - 128)) * 64 + ((x3 : Int) - 128) ∧ R2 = 4 ∧ R3 = true) ∨ (¬ (((128 ≤ (x1 : Int) ∧ (x1 : Int) ≤ 191) ∧ (128 ≤ (x2 : Int) ∧ (x2 : Int) ≤ 191) ∧ (128 ≤ (x3 : Int) ∧ (x3 : Int) ≤ 191) ∧ ¬ (((((x0 : Int) - 240) * 64 + ((x1 : Int) - 128)) * 64 + ((x2 : Int) - 128)) * 64 + ((x3 : Int) - 128) < 65536 ∨ 1114111 < ((((x0 : Int) - 240) * 64 + ((x1 : Int) - 128)) * 64 + ((x2 : Int) - 128)) * 64 + ((x3 : Int) - 128)))) ∧ R1 = 65533 ∧ R2 = 1 ∧ R3 = false))) :
    Calls Tryz.prog 113 #[.string s] w fun e w' => e = .returned (.tuple #[.int .i64 R1, .int .i64 R2, .bool R3]) ∧ w = w' := by
  have h0 : 0 < s.size := by omega
  have h1 : 1 < s.size := by omega
  have h2 : 2 < s.size := by omega
  have h3 : 3 < s.size := by omega
  go_enter Tryz.func113, Tryz.ntmps113
  go_wp2_with fail
  refine wp_loop_rounds 5 ?_
  all_goals (try (rw [rounds_succ]; go_wp2_with fail))
  all_goals (try (rw [rounds_succ]; go_wp2_with fail))
  all_goals (try (rw [rounds_succ]; go_wp2_with fail))
  all_goals (try (rw [rounds_succ]; go_wp2_with fail))
  all_goals
    go_ret3
    rcases HD.out with ⟨c, k1, k2, k3⟩ | ⟨c, k1, k2, k3⟩
    all_goals
      first
        | (exfalso; omega)
        | exact ⟨ret3 (by omega) (by omega) k3.symm, rfl⟩
end Go.Proofs.YtnlolpiefidckaaGreat.Nm
namespace Go.Proofs.YtnlolpiefidckaaGreat.Nm
open Go.RowKit
set_option linter.unusedVariables false

theorem ct_iff {l : List UInt8} {k : Nat} (h : k < l.length) : Pl.ct l k = true ↔ (128 ≤ Pl.g l k ∧ Pl.g l k ≤ 191) := by
  unfold Pl.ct; simp [h]
theorem ct_out {l : List UInt8} {k : Nat} (h : ¬ k < l.length) : ¬ Pl.ct l k = true := by
  unfold Pl.ct; simp [h]
theorem bad1 : Pl.bad.1 = 65533 := rfl
theorem bad2 : Pl.bad.2.1 = 1 := rfl
theorem bad3 : Pl.bad.2.2 = false := rfl
theorem bad_ok {r : Nat × Nat × Bool} (h : r = Pl.bad) : (r.1 : Int) = 65533 ∧ (r.2.1 : Int) = 1 ∧ r.2.2 = false := by subst h; exact ⟨rfl, rfl, rfl⟩

theorem refRune_any (s : ByteArray) (w : World) (h : 0 < s.size) (hs : s.size ≤ 281474976710656) :
    Calls Tryz.prog 113 #[.string s] w fun e w' => e = .returned (.tuple #[.int .i64 ((Pl.rune s.data.toList).1 : Nat), .int .i64 ((Pl.rune s.data.toList).2.1 : Nat), .bool (Pl.rune s.data.toList).2.2]) ∧ w = w' := by
  have hl : s.data.toList.length = s.size := by rw [Array.length_toList]; rfl
  have q0 := g_at h
  have b0 := (s[0]'h).toNat_lt
  generalize hx0 : (s[0]'h).toNat = x0 at *
  by_cases c1 : 194 ≤ x0 ∧ x0 ≤ 223
  · have hr : Pl.rune s.data.toList = if Pl.ct s.data.toList 1 = true then ((Pl.g s.data.toList 0 - 192) * 64 + (Pl.g s.data.toList 1 - 128), 2, true) else Pl.bad := by
      unfold Pl.rune; rw [if_neg (by omega), if_pos (by omega)]
    by_cases z : 2 ≤ s.size
    · have q1 := g_at (s := s) (k := 1) (by omega)
      have b1 := (s[1]'(by omega)).toNat_lt
      refine rr2 s w x0 _ _ _ _ z hs hx0 rfl (by omega) (by omega) (by omega) (by omega) (by omega) ?_
      have k1 := ct_iff (l := s.data.toList) (k := 1) (by omega)
      rw [q1] at k1
      by_cases d : Pl.ct s.data.toList 1 = true
      · have := k1.1 d
        rw [hr, if_pos d, q0, q1]
        exact .inl ⟨by omega, by dsimp only; omega, rfl, rfl⟩
      · rw [hr, if_neg d]
        exact .inr ⟨fun e => d (k1.2 (by omega)), rfl, rfl, rfl⟩
    · refine rr2s s w x0 _ _ _ h hs hx0 (by omega) (by omega) (by omega) (by omega) ?_
      rw [hr, if_neg (ct_out (by omega))]
      exact .inr ⟨trivial, rfl, rfl, rfl⟩
  by_cases c2 : 224 ≤ x0 ∧ x0 ≤ 239
  · have hr : Pl.rune s.data.toList = if Pl.ct s.data.toList 1 = true ∧ Pl.ct s.data.toList 2 = true then
        if ((Pl.g s.data.toList 0 - 224) * 64 + (Pl.g s.data.toList 1 - 128)) * 64 + (Pl.g s.data.toList 2 - 128) < 2048 ∨ (55296 ≤ ((Pl.g s.data.toList 0 - 224) * 64 + (Pl.g s.data.toList 1 - 128)) * 64 + (Pl.g s.data.toList 2 - 128) ∧ ((Pl.g s.data.toList 0 - 224) * 64 + (Pl.g s.data.toList 1 - 128)) * 64 + (Pl.g s.data.toList 2 - 128) ≤ 57343) then Pl.bad
        else (((Pl.g s.data.toList 0 - 224) * 64 + (Pl.g s.data.toList 1 - 128)) * 64 + (Pl.g s.data.toList 2 - 128), 3, true)
      else Pl.bad := by
      unfold Pl.rune; rw [if_neg (by omega), if_neg (by omega), if_pos (by omega)]
    by_cases z : 3 ≤ s.size
    · have q1 := g_at (s := s) (k := 1) (by omega)
      have b1 := (s[1]'(by omega)).toNat_lt
      have q2 := g_at (s := s) (k := 2) (by omega)
      have b2 := (s[2]'(by omega)).toNat_lt
      refine rr3 s w x0 _ _ _ _ _ z hs hx0 rfl rfl (by omega) (by omega) (by omega) (by omega) (by omega) (by omega) ?_
      have k1 := ct_iff (l := s.data.toList) (k := 1) (by omega)
      have k2 := ct_iff (l := s.data.toList) (k := 2) (by omega)
      rw [q1] at k1
      rw [q2] at k2
      by_cases d : Pl.ct s.data.toList 1 = true ∧ Pl.ct s.data.toList 2 = true
      · have m1 := k1.1 d.1
        have m2 := k2.1 d.2
        rw [hr, if_pos d, q0, q1, q2]
        split
        · exact .inr ⟨fun e => by omega, rfl, rfl, rfl⟩
        · exact .inl ⟨by omega, by dsimp only; omega, rfl, rfl⟩
      · rw [hr, if_neg d]
        exact .inr ⟨fun e => d ⟨k1.2 (by omega), k2.2 (by omega)⟩, rfl, rfl, rfl⟩
    · refine rr3s s w x0 _ _ _ h hs hx0 (by omega) (by omega) (by omega) (by omega) ?_
      rw [hr, if_neg (fun e => ct_out (k := 2) (by omega) e.2)]
      exact .inr ⟨trivial, rfl, rfl, rfl⟩
  by_cases c3 : 240 ≤ x0 ∧ x0 ≤ 244
  · have hr : Pl.rune s.data.toList = if Pl.ct s.data.toList 1 = true ∧ Pl.ct s.data.toList 2 = true ∧ Pl.ct s.data.toList 3 = true then
        if (((Pl.g s.data.toList 0 - 240) * 64 + (Pl.g s.data.toList 1 - 128)) * 64 + (Pl.g s.data.toList 2 - 128)) * 64 + (Pl.g s.data.toList 3 - 128) < 65536 ∨ 1114111 < (((Pl.g s.data.toList 0 - 240) * 64 + (Pl.g s.data.toList 1 - 128)) * 64 + (Pl.g s.data.toList 2 - 128)) * 64 + (Pl.g s.data.toList 3 - 128) then Pl.bad
        else ((((Pl.g s.data.toList 0 - 240) * 64 + (Pl.g s.data.toList 1 - 128)) * 64 + (Pl.g s.data.toList 2 - 128)) * 64 + (Pl.g s.data.toList 3 - 128), 4, true)
      else Pl.bad := by
      unfold Pl.rune; rw [if_neg (by omega), if_neg (by omega), if_neg (by omega), if_pos (by omega)]
    by_cases z : 4 ≤ s.size
    · have q1 := g_at (s := s) (k := 1) (by omega)
      have b1 := (s[1]'(by omega)).toNat_lt
      have q2 := g_at (s := s) (k := 2) (by omega)
      have b2 := (s[2]'(by omega)).toNat_lt
      have q3 := g_at (s := s) (k := 3) (by omega)
      have b3 := (s[3]'(by omega)).toNat_lt
      refine rr4 s w x0 _ _ _ _ _ _ z hs hx0 rfl rfl rfl (by omega) (by omega) (by omega) (by omega) (by omega) (by omega) (by omega) ?_
      have k1 := ct_iff (l := s.data.toList) (k := 1) (by omega)
      have k2 := ct_iff (l := s.data.toList) (k := 2) (by omega)
      have k3 := ct_iff (l := s.data.toList) (k := 3) (by omega)
      rw [q1] at k1
      rw [q2] at k2
      rw [q3] at k3
      by_cases d : Pl.ct s.data.toList 1 = true ∧ Pl.ct s.data.toList 2 = true ∧ Pl.ct s.data.toList 3 = true
      · have m1 := k1.1 d.1
        have m2 := k2.1 d.2.1
        have m3 := k3.1 d.2.2
        rw [hr, if_pos d, q0, q1, q2, q3]
        split
        · exact .inr ⟨fun e => by omega, rfl, rfl, rfl⟩
        · exact .inl ⟨by omega, by dsimp only; omega, rfl, rfl⟩
      · rw [hr, if_neg d]
        exact .inr ⟨fun e => d ⟨k1.2 (by omega), k2.2 (by omega), k3.2 (by omega)⟩, rfl, rfl, rfl⟩
    · refine rr4s s w x0 _ _ _ h hs hx0 (by omega) (by omega) (by omega) (by omega) ?_
      rw [hr, if_neg (fun e => ct_out (k := 3) (by omega) e.2.2)]
      exact .inr ⟨trivial, rfl, rfl, rfl⟩
  · refine rr1 s w x0 _ _ _ h hs hx0 (by omega) (by omega) ?_
    by_cases d : x0 < 128
    · have hr : Pl.rune s.data.toList = (Pl.g s.data.toList 0, 1, true) := by unfold Pl.rune; rw [if_pos (by omega)]
      rw [hr, q0]
      exact .inl ⟨by omega, rfl, rfl, rfl⟩
    · have hr : Pl.rune s.data.toList = Pl.bad := by unfold Pl.rune; rw [if_neg (by omega), if_neg (by omega), if_neg (by omega), if_neg (by omega)]
      rw [hr]
      exact .inr ⟨by omega, rfl, rfl, rfl⟩
theorem refRune_str (l : List UInt8) (w : World) (h : l ≠ []) (hs : l.length ≤ 281474976710656) :
    Calls Tryz.prog 113 #[.string (str l)] w fun e w' => e = .returned (.tuple #[.int .i64 ((Pl.rune l).1 : Nat), .int .i64 ((Pl.rune l).2.1 : Nat), .bool (Pl.rune l).2.2]) ∧ w = w' :=
  refRune_any (str l) w (by rw [str_size]; exact List.length_pos_iff.2 h) (by rw [str_size]; exact hs)
end Go.Proofs.YtnlolpiefidckaaGreat.Nm
namespace Go.Proofs.YtnlolpiefidckaaGreat.Nm
open Go.RowKit
set_option linter.unusedVariables false

/-- a text behind its first n bytes, as the walk spells it -/
theorem extract_rest (l : List UInt8) (n : Nat) (z : Nat) (hz : z = l.length) : (str l).extract n z = str (l.drop n) := by
  subst hz
  rw [← str_size l, extract_back]; rfl

def szOf : Value → Nat
  | .string s => s.size
  | _ => 0

set_option maxHeartbeats 1000000 in
set_option maxRecDepth 100000 in
theorem refRunes_str (l : List UInt8) (w : World) (hs : l.length ≤ 281474976710656) :
    Calls Tryz.prog 112 #[.string (str l)] w fun e w' => e = .returned (.tuple #[.int .i64 ((Pl.runes l).length : Nat), .bool (Pl.okay l)]) ∧ w = w' := by
  have htot := Pl.runes_len l
  generalize hS : str l = S at *
  have HS := Lib.hid hS
  clear hS
  go_enter Tryz.func112, Tryz.ntmps112
  go_wp2_with fail
  go_loop [0, 4, 5] (fun t n v => ∃ (m : List UInt8) (k : Nat) (b : Bool), t = .string (str m) ∧ n = .int .i64 (k : Nat) ∧ v = .bool b ∧ m.length ≤ l.length ∧ k + (Pl.runes m).length = (Pl.runes l).length ∧ (b && Pl.okay m) = Pl.okay l) (fun t _ _ => szOf t)
  case atStart => exact ⟨l, 0, true, by rw [HS.out], rfl, rfl, Nat.le_refl _, by omega, by simp⟩
  case round =>
    obtain ⟨m, k, b, rfl, rfl, rfl, hm, hk, hb⟩ := hrel
    have hsz := str_size m
    by_cases hne : m = []
    · subst hne
      rw [Pl.okay_nil, Bool.and_true] at hb
      rw [Pl.runes_nil] at hk
      subst hb
      have HK := Lib.hid hk
      clear hk
      have e0 : str [] = (⟨#[]⟩ : ByteArray) := rfl
      rw [e0] at *
      go_wp2_with fail
      go_ret2
      refine ⟨?_, rfl⟩
      rw [← HK.out]
      rfl
    · have hbd := Pl.rune_bd m hne
      have c1 := Lib.hid (refRune_str m w hne (by omega))
      have HE := Lib.hid (extract_rest m (Pl.rune m).2.1 (str m).size hsz)
      rw [Pl.runes_cons hne, List.length_cons] at hk
      rw [Pl.okay_cons hne] at hb
      have HK := Lib.hid hk
      have HBB := Lib.hid hb
      have h0 : 0 < (str m).size := by omega
      have hle : (Pl.rune m).2.1 ≤ (str m).size := by omega
      have HD := Lib.hid (List.length_drop (i := (Pl.rune m).2.1) (l := m))
      have HSZ := Lib.hid hsz
      have hs2 : (str m).size ≤ 281474976710656 := by omega
      have hk2 : (k : Int) ≤ 281474976710656 := by omega
      have HW := Lib.hid hbd
      clear hk hb hsz
      generalize str m = M at *
      generalize hr : Pl.rune m = r at *
      clear hbd
      go_wp2_with fail
      refine c1.out.mono ?_
      rintro e w' ⟨rfl, rfl⟩
      go_wp2_with fail
      · have hb : b = true := by assumption
        subst hb
        have hd := HD.out
        have hkk := HK.out
        have hw := HW.out
        have hz := HSZ.out
        refine ⟨⟨m.drop r.2.1, k + 1, r.2.2, by rw [HE.out], rfl, rfl, by omega, by omega, by rw [← HBB.out]; rfl⟩, ?_⟩
        show (M.extract r.2.1 M.size).size < M.size
        rw [HE.out, str_size, hd]
        omega
      · have hb : ¬ b = true := by assumption
        have hb := Bool.eq_false_iff.2 hb
        subst hb
        have hd := HD.out
        have hkk := HK.out
        have hw := HW.out
        have hz := HSZ.out
        refine ⟨⟨m.drop r.2.1, k + 1, false, by rw [HE.out], rfl, rfl, by omega, by omega, by rw [← HBB.out]; rfl⟩, ?_⟩
        show (M.extract r.2.1 M.size).size < M.size
        rw [HE.out, str_size, hd]
        omega

theorem alw_right {l : List UInt8} (h : alw (Pl.rune l).1 = true) : (Pl.rune l).2.2 = true := by
  cases hr : (Pl.rune l).2.2
  · rw [Pl.rune_bad hr] at h; cases h
  · rfl
theorem alw_okay (l : List UInt8) (h : (Pl.nums l).all alw = true) : Pl.okay l = true := by
  by_cases hl : l = []
  · subst hl; exact Pl.okay_nil
  · rw [Pl.nums_cons hl, List.all_cons, Bool.and_eq_true] at h
    have hbd := Pl.rune_bd l hl
    rw [Pl.okay_cons hl, alw_right h.1, Bool.true_and]
    exact alw_okay _ h.2
termination_by l.length
decreasing_by
  rw [List.length_drop]
  omega
theorem alw_is (c : Nat) : (alw c = true ∧ 33 ≤ (c : Int) ∧ ¬ (127 ≤ (c : Int) ∧ (c : Int) ≤ 160) ∧ (c : Int) ≠ 8232 ∧ (c : Int) ≠ 8233 ∧ (c : Int) ≠ 65533) ∨ (alw c = false ∧ ((c : Int) < 33 ∨ (127 ≤ (c : Int) ∧ (c : Int) ≤ 160) ∨ (c : Int) = 8232 ∨ (c : Int) = 8233 ∨ (c : Int) = 65533)) := by
  have h := alw_iff c
  cases hc : alw c
  · right
    rw [hc] at h
    refine ⟨rfl, ?_⟩
    by_cases q : (33 ≤ c ∧ ¬ (127 ≤ c ∧ c ≤ 160) ∧ c ≠ 8232 ∧ c ≠ 8233 ∧ c ≠ 65533)
    · exact absurd (h.2 q) (by decide)
    · omega
  · left
    have := h.1 hc
    exact ⟨rfl, by omega, by omega, by omega, by omega, by omega⟩

set_option maxHeartbeats 2000000 in
set_option maxRecDepth 100000 in
theorem refMay_str (l : List UInt8) (w : World) (hs : l.length ≤ 281474976710656) :
    Calls Tryz.prog 75 #[.string (str l)] w fun e w' => e = .returned (.bool (may l)) ∧ w = w' := by
  have HM := Lib.hid (may_iff l)
  have HO := Lib.hid (alw_okay l)
  have c1 := Lib.hid (refRunes_str l w hs)
  by_cases hl : l = []
  · subst hl
    have e1 : may [] = false := by decide +kernel
    have e2 : (Pl.runes []).length = 0 := by rw [Pl.runes_nil]; rfl
    rw [e2] at c1
    rw [e1]
    generalize str [] = S at *
    go_enter Tryz.func75, Tryz.ntmps75
    go_wp2_with fail
    refine c1.out.mono ?_
    rintro e w' ⟨rfl, rfl⟩
    go_wp2_with fail
    go_ret
    exact ⟨rfl, rfl⟩
  have hz := str_size l
  have h0 : 0 < (str l).size := by rw [hz]; exact List.length_pos_iff.2 hl
  have hg : ((str l)[0]'h0).toNat = Pl.g l 0 := (g_at (s := str l) h0).symm
  have hrl : 1 ≤ (Pl.runes l).length := by rw [Pl.runes_cons hl]; simp
  have hrs := Pl.runes_len l
  have hgl := Pl.g_le l 0
  generalize may l = M at *
  generalize hT : (Pl.runes l).length = T at *
  generalize Pl.g l 0 = x0 at *
  generalize hok : Pl.okay l = O at *
  generalize hS : str l = S at *
  have HS := Lib.hid hS
  clear hS
  have hx1 : (x0 : Int) ≤ 255 := by omega
  by_cases h24 : 24 < (T : Int)
  · go_enter Tryz.func75, Tryz.ntmps75
    go_wp2_with fail
    refine c1.out.mono ?_
    rintro e w' ⟨rfl, rfl⟩
    go_wp2_with fail
    go_ret
    exact ⟨ret_f (fun h => by have := HM.out.1 h; omega), rfl⟩
  cases O with
  | false =>
    go_enter Tryz.func75, Tryz.ntmps75
    go_wp2_with fail
    refine c1.out.mono ?_
    rintro e w' ⟨rfl, rfl⟩
    go_wp2_with fail
    go_ret
    refine ⟨ret_f (fun h => ?_), rfl⟩
    have := HO.out (HM.out.1 h).2.2.1
    cases this
  | true =>
    by_cases hd : (x0 : Int) = 45
    · go_enter Tryz.func75, Tryz.ntmps75
      go_wp2_with fail
      refine c1.out.mono ?_
      rintro e w' ⟨rfl, rfl⟩
      go_wp2_with fail
      go_ret
      exact ⟨ret_f (fun h => by have := HM.out.1 h; omega), rfl⟩
    · have HE := Lib.hid (show M = (Pl.nums l).all alw by rw [Bool.eq_iff_iff, HM.out]; exact ⟨fun h => h.2.2.1, fun h => ⟨hrl, by omega, h, by omega⟩⟩)
      have HZ := Lib.hid hz
      have hdb : ((x0 : Int) == 45) = false := beq_eq_false_iff_ne.2 hd
      have h24' : (T : Int) ≤ 24 := by omega
      have h1' : 1 ≤ (T : Int) := by omega
      clear HM hok hT hz hd h24
      go_enter Tryz.func75, Tryz.ntmps75
      go_wp2_with fail
      refine c1.out.mono ?_
      rintro e w' ⟨rfl, rfl⟩
      go_wp2_with fail
      go_loop [0] (fun t => ∃ (m : List UInt8), t = .string (str m) ∧ m.length ≤ l.length ∧ (Pl.nums m).all alw = (Pl.nums l).all alw) (fun t => szOf t)
      case atStart => exact ⟨l, by rw [HS.out], Nat.le_refl _, rfl⟩
      case round =>
        obtain ⟨m, rfl, hm, ha⟩ := hrel
        by_cases hne : m = []
        · subst hne
          rw [Pl.nums_nil] at ha
          have HA := Lib.hid ha
          have e0 : str [] = (⟨#[]⟩ : ByteArray) := rfl
          rw [e0] at *
          clear ha
          go_wp2_with fail
          go_ret
          exact ⟨ret_b (by rw [HE.out, ← HA.out]; rfl), rfl⟩
        · have hbd := Pl.rune_bd m hne
          have hzm := str_size m
          have c2 := Lib.hid (refRune_str m w hne (by omega))
          have HX := Lib.hid (extract_rest m (Pl.rune m).2.1 (str m).size hzm)
          rw [Pl.nums_cons hne, List.all_cons] at ha
          have HA := Lib.hid ha
          have h0m : 0 < (str m).size := by omega
          have hle : (Pl.rune m).2.1 ≤ (str m).size := by omega
          have hs3 : (str m).size ≤ 281474976710656 := by omega
          have HD := Lib.hid (show (m.drop (Pl.rune m).2.1).length + (Pl.rune m).2.1 = (str m).size ∧ (m.drop (Pl.rune m).2.1).length ≤ l.length ∧ 1 ≤ (Pl.rune m).2.1 by rw [List.length_drop]; omega)
          have hal := alw_is (Pl.rune m).1
          clear ha hzm hbd
          generalize str m = Q at *
          generalize hr : Pl.rune m = r at *
          have HAL := Lib.hid hal
          clear hal
          go_wp2_with fail
          refine c2.out.mono ?_
          rintro e w' ⟨rfl, rfl⟩
          go_wp2_with fail
          all_goals
            try simp only [beq_iff_eq, beq_eq_false_iff_ne] at *
            rcases HAL.out with ⟨q, q1, q2, q3, q4, q5⟩ | ⟨q, q1⟩
            all_goals
              first
                | (exfalso; omega)
                | (go_ret
                   refine ⟨ret_f ?_, rfl⟩
                   rw [HE.out, ← HA.out, q]
                   simp)
                | (have hd := HD.out
                   refine ⟨⟨m.drop r.2.1, by rw [HX.out], hd.2.1, by rw [← HA.out, q, Bool.true_and]⟩, ?_⟩
                   show (Q.extract r.2.1 Q.size).size < Q.size
                   rw [HX.out, str_size]
                   omega)

end Go.Proofs.YtnlolpiefidckaaGreat.Nm
namespace Go.Proofs.YtnlolpiefidckaaGreat.Nm
open Go.RowKit Go.Shelf
set_option linter.unusedVariables false

set_option maxRecDepth 20000 in
theorem lower_any (c : Nat) (w : World) (hc : c ≤ 1114111) : Calls Tryz.prog 149 #[.int .i32 c] w fun e w' => e = .returned (.int .i32 (lowN c : Nat)) ∧ w = w' := by
  have HI := Lib.hid (lowN_is c)
  generalize lowN c = A at *
  go_enter Tryz.func149, Tryz.ntmps149
  go_wp2_with fail
  all_goals
    go_ret
    refine ⟨ret_i ?_, rfl⟩
    have := HI.out
    omega

/-- the library's Builder.String and AppendRune, at this program -/
def ren169 : Go.Shelf.Ren := ⟨fun | 169 => 150 | n => n, fun | 70 => 196 | 9 => 9 | 0 => 0 | 72 => 198 | 37 => 116 | 127 => 234 | 3 => 3 | 5 => 5 | n => n, fun | n => n⟩
theorem lays169 : Go.Proofs.Lays.n169 Tryz.prog ren169 := {
  mixed := by kernel_rfl
  f169 := Tryz.func150.trans (congrArg some (by kernel_rfl))
  t0 := Tryz.underlying0
  a0 := Tryz.isAgg0
  z0 := Tryz.sizeOf0
  v0 := Tryz.zeroValue0
  t3 := Tryz.underlying3
  a3 := Tryz.isAgg3
  z3 := Tryz.sizeOf3
  v3 := Tryz.zeroValue3
  t9 := Tryz.underlying9
  a9 := Tryz.isAgg9
  z9 := Tryz.sizeOf9
  v9 := Tryz.zeroValue9
  t37 := Tryz.underlying116
  a37 := Tryz.isAgg116
  z37 := Tryz.sizeOf116
  v37 := Tryz.zeroValue116
  t70 := Tryz.underlying196
  a70 := Tryz.isAgg196
  z70 := Tryz.sizeOf196
  v70 := Tryz.zeroValue196
  t72 := Tryz.underlying198
  a72 := Tryz.isAgg198
  z72 := Tryz.sizeOf198
  v72 := Tryz.zeroValue198
  t127 := Tryz.underlying234
  a127 := Tryz.isAgg234
  z127 := Tryz.sizeOf234
  v127 := Tryz.zeroValue234 }
theorem extra169 : Builder.Extra Tryz.prog ren169 := {
  sizeBuilder := by kernel_rfl
  liesBuilder := by kernel_rfl
  t5 := Tryz.underlying5
  a5 := Tryz.isAgg5
  z5 := Tryz.sizeOf5
  v5 := Tryz.zeroValue5
  infoByte := by kernel_rfl
  cellsByte := by kernel_rfl
  sizeByte := by kernel_rfl
  neB5 := by decide }
theorem builderString_any (B b : Nat) (l : List UInt8) (w : World) (h : Lib.IsBuilderF 198 5 B b (Lib.byteCells l) w) (hBw : B ≤ w.heap.size) :
    Calls Tryz.prog 150 #[.pointer (some ⟨b, 0, none⟩)] w fun e w' => e = .returned (.string ⟨l.toArray⟩) ∧ (Lib.IsBuilderF 198 5 B b (Lib.byteCells l) w' ∧ Below B w w' ∧ Lib.OthersKept 5 (some b) w w') := Any.Builder_String_any_k lays169 extra169 B b l w h hBw
def ren242 : Go.Shelf.Ren := ⟨fun | 242 => 179 | 278 => 198 | n => n, fun | 37 => 116 | 21 => 21 | 51 => 218 | 4 => 4 | 5 => 5 | 46 => 178 | 70 => 196 | 72 => 198 | n => n, fun | n => n⟩
theorem lays242 : Go.Proofs.Lays.n242 Tryz.prog ren242 := {
  mixed := by kernel_rfl
  f242 := Tryz.func179.trans (congrArg some (by kernel_rfl))
  f278 := Tryz.func198.trans (congrArg some (by kernel_rfl))
  t4 := Tryz.underlying4
  a4 := Tryz.isAgg4
  z4 := Tryz.sizeOf4
  v4 := Tryz.zeroValue4
  t5 := Tryz.underlying5
  a5 := Tryz.isAgg5
  z5 := Tryz.sizeOf5
  v5 := Tryz.zeroValue5
  t21 := Tryz.underlying21
  a21 := Tryz.isAgg21
  z21 := Tryz.sizeOf21
  v21 := Tryz.zeroValue21
  t37 := Tryz.underlying116
  a37 := Tryz.isAgg116
  z37 := Tryz.sizeOf116
  v37 := Tryz.zeroValue116
  t46 := Tryz.underlying178
  a46 := Tryz.isAgg178
  z46 := Tryz.sizeOf178
  v46 := Tryz.zeroValue178
  t51 := Tryz.underlying218
  a51 := Tryz.isAgg218
  z51 := Tryz.sizeOf218
  v51 := Tryz.zeroValue218 }
theorem extra242 : Builder.Extra Tryz.prog ren242 := {
  sizeBuilder := by kernel_rfl
  liesBuilder := by kernel_rfl
  t5 := Tryz.underlying5
  a5 := Tryz.isAgg5
  z5 := Tryz.sizeOf5
  v5 := Tryz.zeroValue5
  infoByte := by kernel_rfl
  cellsByte := by kernel_rfl
  sizeByte := by kernel_rfl
  neB5 := by decide }
theorem appendRune_any (B : Nat) (v : Value) (n : Nat) (xs : List Value) (r : Int) (hr0 : -2147483648 ≤ r) (hr1 : r ≤ 2147483647) (w : World) (hown : w.ownsRowF B 5 1 v n xs) (hlen : n + 4 ≤ 140737488355328) (hBw : B ≤ w.heap.size) :
    Calls Tryz.prog 179 #[v, .int .i32 r] w fun e w' => ∃ v', e = .returned v' ∧ w'.ownsRowF B 5 1 v' (n + (Lib.runeCells r).length) (xs ++ Lib.runeCells r) ∧ ∃ o, (w.alloc o).grownBy w' v.ownBlock := Any.utf8_AppendRune_own lays242 extra242 B v n xs r hr0 hr1 w hown hlen hBw

theorem info42 : (Tryz.prog.info? 198).map (·.size) = some 2 := by kernel_rfl
theorem lies42 : liesAt Tryz.prog Tryz.prog.depth 198 (2 / Tryz.prog.cellsOf 198) 0 198 1 = true := by kernel_rfl

set_option maxHeartbeats 1000000 in
set_option maxRecDepth 100000 in
/-- a builder that was written to stays as it is -/
theorem check_used (b : Nat) (w : World) (h0 : w.cell? ⟨b, 0, none⟩ = some (.pointer (some ⟨b, 0, none⟩))) :
    Calls Tryz.prog 178 #[.pointer (some ⟨b, 0, none⟩)] w fun e w' => e = .returned (.tuple #[]) ∧ w' = w := by
  obtain ⟨j, hj, _⟩ := Option.map_eq_some_iff.1 info42
  go_enter Tryz.func178, Tryz.ntmps178
  go_wp2_with fail
  rw [Lib.run_neq_ptr_same w _ Tryz.underlying196 hj]
  go_wp2_with fail
  go_end0
  exact ⟨rfl, rfl⟩

set_option maxHeartbeats 1000000 in
set_option maxRecDepth 100000 in
/-- one that wasn't stores its own place -/
theorem check_fresh (b : Nat) (w : World) (h0 : w.cell? ⟨b, 0, none⟩ = some (.pointer none)) (hsh : w.shape? b = some (198, 2)) (hfz : w.frozen? ⟨b, 0, none⟩ = false) :
    Calls Tryz.prog 178 #[.pointer (some ⟨b, 0, none⟩)] w fun e w' => e = .returned (.tuple #[]) ∧ w' = w.setCell ⟨b, 0, none⟩ (.pointer (some ⟨b, 0, none⟩)) := by
  obtain ⟨j, hj, hjs⟩ := Option.map_eq_some_iff.1 info42
  go_enter Tryz.func178, Tryz.ntmps178
  go_wp2_with fail
  rw [Lib.run_to_unsafe w ⟨b, 0, none⟩ Tryz.underlying196 Tryz.underlying252 hj (by rw [hjs]; decide) hsh (Nat.zero_lt_succ 1)]
  simp only [Result.andThen]
  rw [Oper.upon_value]
  go_wp2_with fail
  rw [run_callFunc_extern Tryz.func197 (by kernel_rfl) (by kernel_rfl) (by kernel_rfl) (e := Extern.AbiNoEscape.same) (by kernel_rfl)]
  rw [Lib.run_noEscape]
  simp only [Result.andThen]
  rw [Oper.upon_value]
  go_wp2_with fail
  rw [Lib.run_from_unsafe w ⟨b, 0, none⟩ Tryz.underlying252 Tryz.underlying196 hj hsh lies42]
  simp only [Result.andThen]
  rw [Oper.upon_value]
  go_wp2_with fail
  go_end0
  exact ⟨rfl, rfl⟩
theorem check_any (B b : Nat) (bs : List Value) (w : World) (h : Lib.IsBuilderF 198 5 B b bs w) :
    Calls Tryz.prog 178 #[.pointer (some ⟨b, 0, none⟩)] w fun e w' => e = .returned (.tuple #[]) ∧ (Lib.BuilderAtF 198 5 B b (.pointer (some ⟨b, 0, none⟩)) bs w' ∧ Below B w w' ∧ Lib.OthersKept 5 (some b) w w') := by
  rcases h with h | h
  · refine (check_fresh b w h.cell0 h.shape h.frozen0).mono ?_
    rintro e w' ⟨rfl, rfl⟩
    exact ⟨rfl, h.used _, (Below.refl B w).setCell (p := ⟨b, 0, none⟩) h.1 _, (Lib.OthersKept.refl _ _ w).setCell ⟨b, 0, none⟩ rfl _⟩
  · refine (check_used b w h.cell0).mono ?_
    rintro e w' ⟨rfl, rfl⟩
    exact ⟨rfl, h, Below.refl B _, Lib.OthersKept.refl _ _ _⟩

set_option maxHeartbeats 4000000 in
set_option maxRecDepth 100000 in
theorem writeRune_any (B b : Nat) (bs : List Value) (r : Int) (hr0 : -2147483648 ≤ r) (hr1 : r ≤ 2147483647) (w : World) (h : Lib.IsBuilderF 198 5 B b bs w) (hlen : bs.length + 4 ≤ 140737488355328) (hBw : B ≤ w.heap.size) :
    Calls Tryz.prog 148 #[.pointer (some ⟨b, 0, none⟩), .int .i32 r] w fun e w' => e = .returned (.tuple #[.int .i64 (Lib.runeCells r).length, .nilIface]) ∧ (Lib.BuilderAtF 198 5 B b (.pointer (some ⟨b, 0, none⟩)) (bs ++ Lib.runeCells r) w' ∧ Below B w w' ∧ Lib.OthersKept 5 (some b) w w') := by
  have hk4 := Lib.runeCells_le r
  go_enter Tryz.func148, Tryz.ntmps148
  go_wp2_with (go_at_call 178; refine (check_any B b bs _ h).mono ?_)
  rintro e w1 ⟨rfl, h1, hb1, hk1⟩
  obtain ⟨hB, v, hbk, hown, hne⟩ := h1
  obtain ⟨ao, cap, rfl⟩ : ∃ ao cap, v = .slice ao bs.length cap := by
    rcases hown.2 with ⟨hv, h0⟩ | ⟨g, cap, cur, fz, hv, _⟩
    · exact ⟨none, 0, by rw [hv, h0]⟩
    · exact ⟨_, _, hv⟩
  have c0 : w1.cell? ⟨b, 0, none⟩ = some (.pointer (some ⟨b, 0, none⟩)) := by rw [Lib.cell_of_heap hbk]; rfl
  have c1 : w1.cell? ⟨b, 1, none⟩ = some (.slice ao bs.length cap) := by rw [Lib.cell_of_heap hbk]; rfl
  go_wp2_with (go_at_call 179; refine (appendRune_any B _ bs.length bs r hr0 hr1 _ hown hlen (by have := hb1.size; omega)).mono ?_)
  rintro e w2 ⟨v', rfl, hown', o, hgrow⟩
  have hlt : b < w1.heap.size := (Array.getElem?_eq_some_iff.1 hbk).1
  have hb2 : w2.heap[b]? = some (.cells #[.pointer (some ⟨b, 0, none⟩), .slice ao bs.length cap] 198 (0, 0)) := by
    rw [hgrow.block b (by simp; omega) (fun e => hne e.symm), Lib.alloc_old w1 _ b hlt]
    exact hbk
  have d0 : w2.cell? ⟨b, 0, none⟩ = some (.pointer (some ⟨b, 0, none⟩)) := by rw [Lib.cell_of_heap hb2]; rfl
  have d1 : w2.cell? ⟨b, 1, none⟩ = some (.slice ao bs.length cap) := by rw [Lib.cell_of_heap hb2]; rfl
  have f1 : w2.frozen? ⟨b, 1, none⟩ = false := Lib.frozen_of_heap hb2 1
  obtain ⟨g, cap', rfl⟩ : ∃ g cap', v' = .slice (some ⟨g, 0, none⟩) (bs.length + (Lib.runeCells r).length) cap' := by
    rcases hown'.2 with ⟨_, h0⟩ | ⟨g, cap', cur, fz, hv, _⟩
    · omega
    · exact ⟨g, cap', hv⟩
  go_wp2_with fail
  go_ret2
  refine ⟨?_, ?_, ?_, ((hk1.alloc _).grown hgrow (Lib.ownsRowF_kind (hown.alloc _))).setCell ⟨b, 1, none⟩ rfl _⟩
  · have e : ((bs.length : Int) + ((Lib.runeCells r).length : Int) - (bs.length : Int)) = ((Lib.runeCells r).length : Int) := by omega
    simp [e]
  · exact Lib.BuilderAtF.put (T := 198) (e := 5) hB hb2 (bs' := bs ++ Lib.runeCells r) (by simpa using hown') (by decide)
  · exact ((hb1.alloc (by have := hb1.size; omega) _).grown hgrow (by have := hb1.size; simp; omega) (fun k hk => (hown.lt k hk).1)).setCell (p := ⟨b, 1, none⟩) hB _
end Go.Proofs.YtnlolpiefidckaaGreat.Nm
namespace Go.Proofs.YtnlolpiefidckaaGreat.Nm
open Go.RowKit
set_option linter.unusedVariables false

def lowB (b : UInt8) : UInt8 := if 65 ≤ b.toNat ∧ b.toNat ≤ 90 then b + 32 else b
theorem lowB_nat (b : UInt8) : (lowB b).toNat = lowN b.toNat := by
  unfold lowB lowN
  split
  · rw [UInt8.toNat_add, show (32 : UInt8).toNat = 32 from rfl]; omega
  · rfl
def key (l : List UInt8) : List UInt8 := l.map lowB
theorem key_len (l : List UInt8) : (key l).length = l.length := by simp [key]
theorem lowN_ge {c : Nat} (h : 91 ≤ c) : lowN c = c := by unfold lowN; rw [if_neg (by omega)]
theorem g_key (l : List UInt8) (k : Nat) : Pl.g (key l) k = lowN (Pl.g l k) := by
  unfold Pl.g key
  rw [List.getElem?_map]
  cases l[k]? with
  | none => rfl
  | some b => simp only [Option.map_some, Option.getD_some]; exact lowB_nat b
theorem ct_key (l : List UInt8) (k : Nat) : Pl.ct (key l) k = Pl.ct l k := by
  unfold Pl.ct
  rw [g_key, key_len]
  have := lowN_is (Pl.g l k)
  congr 1
  rw [Bool.eq_iff_iff]
  simp only [Bool.and_eq_true, decide_eq_true_eq]
  omega
theorem rune_key (l : List UInt8) : Pl.rune (key l) = (lowN (Pl.rune l).1, (Pl.rune l).2.1, (Pl.rune l).2.2) := by
  have hb : Pl.bad = (lowN Pl.bad.1, Pl.bad.2.1, Pl.bad.2.2) := by decide
  have k0 := g_key l 0
  have n1 := @Pl.ct_g l 1
  have n2 := @Pl.ct_g l 2
  have n3 := @Pl.ct_g l 3
  have e1 : Pl.ct l 1 = true → Pl.g (key l) 1 = Pl.g l 1 := fun h => by rw [g_key]; exact lowN_ge (by have := n1 h; omega)
  have e2 : Pl.ct l 2 = true → Pl.g (key l) 2 = Pl.g l 2 := fun h => by rw [g_key]; exact lowN_ge (by have := n2 h; omega)
  have e3 : Pl.ct l 3 = true → Pl.g (key l) 3 = Pl.g l 3 := fun h => by rw [g_key]; exact lowN_ge (by have := n3 h; omega)
  have hi := lowN_is (Pl.g l 0)
  unfold Pl.rune
  rw [ct_key, ct_key, ct_key]
  by_cases h0 : Pl.g l 0 < 128
  · rw [if_pos h0, k0, if_pos (by omega)]
  rw [if_neg h0]
  have e0 : Pl.g (key l) 0 = Pl.g l 0 := by rw [k0]; exact lowN_ge (by omega)
  rw [e0, if_neg h0]
  by_cases h1 : 194 ≤ Pl.g l 0 ∧ Pl.g l 0 ≤ 223
  · rw [if_pos h1, if_pos h1]
    by_cases c : Pl.ct l 1 = true
    · rw [if_pos c, if_pos c, e1 c]
      have := n1 c
      rw [lowN_ge (by dsimp only; omega)]
    · rw [if_neg c, if_neg c]; exact hb
  rw [if_neg h1, if_neg h1]
  by_cases h2 : 224 ≤ Pl.g l 0 ∧ Pl.g l 0 ≤ 239
  · rw [if_pos h2, if_pos h2]
    by_cases c : Pl.ct l 1 = true ∧ Pl.ct l 2 = true
    · rw [if_pos c, if_pos c, e1 c.1, e2 c.2]
      split
      · exact hb
      · rw [lowN_ge (by dsimp only; omega)]
    · rw [if_neg c, if_neg c]; exact hb
  rw [if_neg h2, if_neg h2]
  by_cases h3 : 240 ≤ Pl.g l 0 ∧ Pl.g l 0 ≤ 244
  · rw [if_pos h3, if_pos h3]
    by_cases c : Pl.ct l 1 = true ∧ Pl.ct l 2 = true ∧ Pl.ct l 3 = true
    · rw [if_pos c, if_pos c, e1 c.1, e2 c.2.1, e3 c.2.2]
      split
      · exact hb
      · rw [lowN_ge (by dsimp only; omega)]
    · rw [if_neg c, if_neg c]; exact hb
  · rw [if_neg h3, if_neg h3]; exact hb
theorem key_drop (l : List UInt8) (k : Nat) : (key l).drop k = key (l.drop k) := by simp [key]
theorem key_take (l : List UInt8) (k : Nat) : (key l).take k = key (l.take k) := by simp [key]
theorem key_ne {l : List UInt8} (h : l ≠ []) : key l ≠ [] := by simp [key, h]
theorem runes_key (l : List UInt8) : Pl.runes (key l) = (Pl.runes l).map fun r => (lowN r.1, r.2.1, r.2.2) := by
  by_cases h : l = []
  · subst h; rw [show key [] = [] from rfl, Pl.runes_nil]; rfl
  · have hbd := Pl.rune_bd l h
    rw [Pl.runes_cons (key_ne h), Pl.runes_cons h, rune_key, List.map_cons]
    dsimp only
    rw [key_drop, runes_key (l.drop (Pl.rune l).2.1)]
termination_by l.length
decreasing_by
  rw [List.length_drop]
  omega
theorem nums_key (l : List UInt8) : Pl.nums (key l) = (Pl.nums l).map lowN := by
  unfold Pl.nums; rw [runes_key, List.map_map, List.map_map]; rfl
theorem okay_key (l : List UInt8) : Pl.okay (key l) = Pl.okay l := by
  unfold Pl.okay; rw [runes_key, List.all_map]; rfl
theorem alw_low (c : Nat) : alw (lowN c) = alw c := by
  rw [Bool.eq_iff_iff, alw_iff, alw_iff]
  have := lowN_is c
  omega
theorem may_key (l : List UInt8) : may (key l) = may l := by
  unfold may
  rw [nums_key, runes_key, List.length_map, List.all_map, g_key]
  congr 2
  · congr 1
    funext c
    exact alw_low c
  · rw [Bool.eq_iff_iff, beq_iff_eq, beq_iff_eq]
    have := lowN_is (Pl.g l 0)
    omega
theorem key_key (l : List UInt8) : key (key l) = key l := by
  unfold key
  rw [List.map_map]
  apply List.map_congr_left
  intro b _
  rw [Function.comp, ← UInt8.toNat_inj, lowB_nat, lowB_nat]
  have := lowN_is b.toNat
  have := lowN_is (lowN b.toNat)
  omega
/-- a right rune made small: its bytes -/
theorem enc_key {l : List UInt8} (hl : l ≠ []) (h : (Pl.rune l).2.2 = true) : Lib.encodeRune ((lowN (Pl.rune l).1 : Nat) : Int) = key (l.take (Pl.rune l).2.1) := by
  have e := rune_key l
  have := Pl.enc (key_ne hl) (by rw [e]; exact h)
  rw [e] at this
  dsimp only at this
  rw [this, key_take]
theorem may_okay {l : List UInt8} (h : may l = true) : Pl.okay l = true := alw_okay l ((may_iff l).1 h).2.2.1
theorem wd_le (l : List UInt8) : l.length ≤ 4 * (Pl.runes l).length := by
  by_cases h : l = []
  · subst h; simp
  · have hbd := Pl.rune_bd l h
    have ih := wd_le (l.drop (Pl.rune l).2.1)
    rw [Pl.runes_cons h, List.length_cons]
    rw [List.length_drop] at ih
    omega
termination_by l.length
decreasing_by
  rw [List.length_drop]
  omega

def keyOf (l : List UInt8) : List UInt8 := if may l = true then key l else []
def errOf (l : List UInt8) : Int := if may l = true then 0 else 5

set_option maxHeartbeats 4000000 in
set_option maxRecDepth 100000 in
theorem key_any (s : ByteArray) (w : World) (hs : s.size ≤ 281474976710656) :
    Calls Tryz.prog 111 #[.string s] w fun e w' => e = .returned (.tuple #[.string (str (keyOf s.data.toList)), .int .i64 (errOf s.data.toList)]) ∧ Below w.heap.size w w' := by
  by_cases hm : may s.data.toList = true
  · rw [show keyOf s.data.toList = key s.data.toList from if_pos hm, show errOf s.data.toList = 0 from if_pos hm, ← L_zero]
    have hmm := hm
    rw [← L_zero] at hmm
    have HO := Lib.hid ((may_iff _).1 hmm)
    have hsz : s.size ≤ 96 := by
      have h1 := wd_le (L s 0)
      rw [L_len] at h1
      have := HO.out.2.1
      omega
    have HA := Lib.hid HO.out.2.2.1
    go_enter Tryz.func111, Tryz.ntmps111
    go_wp2_with (go_at_call 78; refine (may_any s w hs).mono ?_; rintro e w1 ⟨rfl, hb1⟩; rw [hm])
    have hsz1 := hb1.size
    have HB1 := Lib.hid hb1
    clear hb1
    generalize hB : w1.heap.size = B at *
    go_loopw [] (fun wr => ∃ (pos : Nat) (acc : List UInt8), Lib.IsBuilderF 198 5 B B (Lib.byteCells acc) wr ∧ wr.heap[B + 1]? = some (.stringIter s pos) ∧ Below B w1 wr ∧ acc ++ key (L s pos) = key (L s 0) ∧ (Pl.nums (L s pos)).all alw = true ∧ pos ≤ s.size) (fun wr => s.size - wr.iterPos (B + 1))
    case atStart =>
      refine ⟨0, [], ?_, ?_, ((Below.refl _ w1).alloc (by omega) _).alloc (by simp; omega) _, by simp, HA.out, by omega⟩
      · rw [← hB]
        exact (Lib.IsBuilderF.of (Lib.fresh_isBuilder 198 5 w1)).alloc _
      · have := World.iter_heap (w1.alloc (.cells #[.pointer none, .slice none 0 0] 198)) s 0
        rw [World.size_alloc, hB] at this
        exact this
    case round =>
      obtain ⟨pos, acc, hI, hit, hbw, hacc, hall, hpa⟩ := hrel
      have hszr : B + 1 < wr.heap.size := (Array.getElem?_eq_some_iff.1 hit).1
      have HC := Lib.hid hacc
      have hal : acc.length ≤ 96 := by
        have := congrArg List.length hacc
        rw [List.length_append, key_len, key_len, L_len, L_len] at this
        omega
      clear hacc
      by_cases hp : pos < s.size
      · have hnx : ∀ ty, (Instr.next (.pointer (some ⟨B + 1, 0, none⟩)) true ty).run Tryz.prog wr = _ := fun ty => Lib.run_next_any_at wr (B + 1) s pos ty hit hp
        rw [dec hp] at hnx
        have hbd := Pl.rune_bd (L s pos) (L_ne hp)
        have hll := L_len s pos
        rw [nums_step hp, List.all_cons, Bool.and_eq_true] at hall
        have HE := Lib.hid (enc_key (L_ne hp) (alw_right hall.1))
        have HA2 := Lib.hid hall.2
        have hI2 := hI.iterAt hit (pos + (Pl.rune (L s pos)).2.1)
        have hit2 := Lib.iterAt_heap wr (B + 1) s pos (pos + (Pl.rune (L s pos)).2.1) hit
        have hbw2 := Lib.below_iterAt hbw (k := B + 1) (by omega) s (pos + (Pl.rune (L s pos)).2.1)
        have hsz2 : B + 1 < (wr.iterAt (B + 1) s (pos + (Pl.rune (L s pos)).2.1)).heap.size := by rw [Lib.iterAt_size]; exact hszr
        have HI := Lib.hid hI2
        have HIT := Lib.hid hit2
        have HBW := Lib.hid hbw2
        have HP := Lib.hid (show 1 ≤ (Pl.rune (L s pos)).2.1 ∧ pos + (Pl.rune (L s pos)).2.1 ≤ s.size by omega)
        have hc := hbd.2.2.2
        have hlc := lowN_is (Pl.rune (L s pos)).1
        clear hI2 hit2 hbw2 hbd hll hall
        generalize hr : Pl.rune (L s pos) = r at *
        go_wp2_with (first | (go_at_call 149; refine (lower_any _ _ hc).mono ?_; rintro e w2 ⟨rfl, rfl⟩) | (go_at_call 148; refine (writeRune_any B B _ _ (by omega) (by omega) _ HI.out (by rw [Lib.byteCells_length]; omega) (by omega)).mono ?_; rintro e w2 ⟨rfl, h1, b1, k1⟩))
        go_roundw
        case rel =>
          have hit3 := k1.iter HIT.out (by omega)
          refine ⟨pos + r.2.1, acc ++ Lib.encodeRune ((lowN r.1 : Nat) : Int), ?_, hit3, HBW.out.trans b1, ?_, HA2.out, HP.out.2⟩
          · rw [Lib.byteCells_append, Lib.byteCells_encodeRune]; exact Or.inr h1
          · rw [HE.out, ← HC.out, List.append_assoc]
            congr 1
            rw [← hr, ← L_drop s pos, ← key_take, ← key_drop, List.take_append_drop]
        case measure =>
          have := HP.out.1
          have hit3 := k1.iter HIT.out (by omega)
          simp only [World.iterPos, hit3, hit]
          omega
      · have hnx : ∀ ty, (Instr.next (.pointer (some ⟨B + 1, 0, none⟩)) true ty).run Tryz.prog wr = _ := fun ty => Lib.run_next_end_at wr (B + 1) s pos ty hit hp
        have HBW := Lib.hid hbw
        have HI := Lib.hid hI
        clear hbw hI
        go_wp2_with (go_at_call 150; refine (builderString_any B B acc _ HI.out (by omega)).mono ?_; rintro e w2 ⟨rfl, _, b1, _⟩)
        go_ret2
        refine ⟨?_, HB1.out.trans ((HBW.out.trans b1).mono (by omega))⟩
        have hc := HC.out
        rw [L_end hp, show key [] = [] from rfl, List.append_nil] at hc
        rw [← hc]
        rfl
  · rw [show keyOf s.data.toList = [] from if_neg hm, show errOf s.data.toList = 5 from if_neg hm]
    have hm2 := Bool.eq_false_iff.2 hm
    clear hm
    go_enter Tryz.func111, Tryz.ntmps111
    go_wp2_with (go_at_call 78; refine (may_any s w hs).mono ?_; rintro e w1 ⟨rfl, hb1⟩; rw [hm2])
    go_ret2
    exact ⟨rfl, hb1⟩
end Go.Proofs.YtnlolpiefidckaaGreat.Nm
