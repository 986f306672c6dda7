import Derived.Test.YtodalljccjcejaaRr
namespace Go.Proofs.Ytodalljccjcejaa
open Go.RowKit
set_option linter.unusedVariables false

theorem ct_iff {l : List UInt8} {k : Nat} (h : k < l.length) : Pl.ct l k = true ↔ (128 ≤ Pl.g l k ∧ Pl.g l k ≤ 191) := by
  unfold Pl.ct; simp [h]
theorem ct_out {l : List UInt8} {k : Nat} (h : ¬ k < l.length) : ¬ Pl.ct l k = true := by
  unfold Pl.ct; simp [h]
theorem bad1 : Pl.bad.1 = 65533 := rfl
theorem bad2 : Pl.bad.2.1 = 1 := rfl
theorem bad3 : Pl.bad.2.2 = false := rfl
theorem bad_ok {r : Nat × Nat × Bool} (h : r = Pl.bad) : (r.1 : Int) = 65533 ∧ (r.2.1 : Int) = 1 ∧ r.2.2 = false := by subst h; exact ⟨rfl, rfl, rfl⟩

theorem refRune_any (s : ByteArray) (w : World) (h : 0 < s.size) (hs : s.size ≤ 281474976710656) :
    Calls Try.prog 22 #[.string s] w fun e w' => e = .returned (.tuple #[.int .i64 ((Pl.rune s.data.toList).1 : Nat), .int .i64 ((Pl.rune s.data.toList).2.1 : Nat), .bool (Pl.rune s.data.toList).2.2]) ∧ w = w' := by
  have hl : s.data.toList.length = s.size := by rw [Array.length_toList]; rfl
  have q0 := g_at h
  have b0 := (s[0]'h).toNat_lt
  generalize hx0 : (s[0]'h).toNat = x0 at *
  by_cases c1 : 194 ≤ x0 ∧ x0 ≤ 223
  · have hr : Pl.rune s.data.toList = if Pl.ct s.data.toList 1 = true then ((Pl.g s.data.toList 0 - 192) * 64 + (Pl.g s.data.toList 1 - 128), 2, true) else Pl.bad := by
      unfold Pl.rune; rw [if_neg (by omega), if_pos (by omega)]
    by_cases z : 2 ≤ s.size
    · have q1 := g_at (s := s) (k := 1) (by omega)
      have b1 := (s[1]'(by omega)).toNat_lt
      refine rr2 s w x0 _ _ _ _ z hs hx0 rfl (by omega) (by omega) (by omega) (by omega) (by omega) ?_
      have k1 := ct_iff (l := s.data.toList) (k := 1) (by omega)
      rw [q1] at k1
      by_cases d : Pl.ct s.data.toList 1 = true
      · have := k1.1 d
        rw [hr, if_pos d, q0, q1]
        exact .inl ⟨by omega, by dsimp only; omega, rfl, rfl⟩
      · rw [hr, if_neg d]
        exact .inr ⟨fun e => d (k1.2 (by omega)), rfl, rfl, rfl⟩
    · refine rr2s s w x0 _ _ _ h hs hx0 (by omega) (by omega) (by omega) (by omega) ?_
      rw [hr, if_neg (ct_out (by omega))]
      exact .inr ⟨trivial, rfl, rfl, rfl⟩
  by_cases c2 : 224 ≤ x0 ∧ x0 ≤ 239
  · have hr : Pl.rune s.data.toList = if Pl.ct s.data.toList 1 = true ∧ Pl.ct s.data.toList 2 = true then
        if ((Pl.g s.data.toList 0 - 224) * 64 + (Pl.g s.data.toList 1 - 128)) * 64 + (Pl.g s.data.toList 2 - 128) < 2048 ∨ (55296 ≤ ((Pl.g s.data.toList 0 - 224) * 64 + (Pl.g s.data.toList 1 - 128)) * 64 + (Pl.g s.data.toList 2 - 128) ∧ ((Pl.g s.data.toList 0 - 224) * 64 + (Pl.g s.data.toList 1 - 128)) * 64 + (Pl.g s.data.toList 2 - 128) ≤ 57343) then Pl.bad
        else (((Pl.g s.data.toList 0 - 224) * 64 + (Pl.g s.data.toList 1 - 128)) * 64 + (Pl.g s.data.toList 2 - 128), 3, true)
      else Pl.bad := by
      unfold Pl.rune; rw [if_neg (by omega), if_neg (by omega), if_pos (by omega)]
    by_cases z : 3 ≤ s.size
    · have q1 := g_at (s := s) (k := 1) (by omega)
      have b1 := (s[1]'(by omega)).toNat_lt
      have q2 := g_at (s := s) (k := 2) (by omega)
      have b2 := (s[2]'(by omega)).toNat_lt
      refine rr3 s w x0 _ _ _ _ _ z hs hx0 rfl rfl (by omega) (by omega) (by omega) (by omega) (by omega) (by omega) ?_
      have k1 := ct_iff (l := s.data.toList) (k := 1) (by omega)
      have k2 := ct_iff (l := s.data.toList) (k := 2) (by omega)
      rw [q1] at k1
      rw [q2] at k2
      by_cases d : Pl.ct s.data.toList 1 = true ∧ Pl.ct s.data.toList 2 = true
      · have m1 := k1.1 d.1
        have m2 := k2.1 d.2
        rw [hr, if_pos d, q0, q1, q2]
        split
        · exact .inr ⟨fun e => by omega, rfl, rfl, rfl⟩
        · exact .inl ⟨by omega, by dsimp only; omega, rfl, rfl⟩
      · rw [hr, if_neg d]
        exact .inr ⟨fun e => d ⟨k1.2 (by omega), k2.2 (by omega)⟩, rfl, rfl, rfl⟩
    · refine rr3s s w x0 _ _ _ h hs hx0 (by omega) (by omega) (by omega) (by omega) ?_
      rw [hr, if_neg (fun e => ct_out (k := 2) (by omega) e.2)]
      exact .inr ⟨trivial, rfl, rfl, rfl⟩
  by_cases c3 : 240 ≤ x0 ∧ x0 ≤ 244
  · have hr : Pl.rune s.data.toList = if Pl.ct s.data.toList 1 = true ∧ Pl.ct s.data.toList 2 = true ∧ Pl.ct s.data.toList 3 = true then
        if (((Pl.g s.data.toList 0 - 240) * 64 + (Pl.g s.data.toList 1 - 128)) * 64 + (Pl.g s.data.toList 2 - 128)) * 64 + (Pl.g s.data.toList 3 - 128) < 65536 ∨ 1114111 < (((Pl.g s.data.toList 0 - 240) * 64 + (Pl.g s.data.toList 1 - 128)) * 64 + (Pl.g s.data.toList 2 - 128)) * 64 + (Pl.g s.data.toList 3 - 128) then Pl.bad
        else ((((Pl.g s.data.toList 0 - 240) * 64 + (Pl.g s.data.toList 1 - 128)) * 64 + (Pl.g s.data.toList 2 - 128)) * 64 + (Pl.g s.data.toList 3 - 128), 4, true)
      else Pl.bad := by
      unfold Pl.rune; rw [if_neg (by omega), if_neg (by omega), if_neg (by omega), if_pos (by omega)]
    by_cases z : 4 ≤ s.size
    · have q1 := g_at (s := s) (k := 1) (by omega)
      have b1 := (s[1]'(by omega)).toNat_lt
      have q2 := g_at (s := s) (k := 2) (by omega)
      have b2 := (s[2]'(by omega)).toNat_lt
      have q3 := g_at (s := s) (k := 3) (by omega)
      have b3 := (s[3]'(by omega)).toNat_lt
      refine rr4 s w x0 _ _ _ _ _ _ z hs hx0 rfl rfl rfl (by omega) (by omega) (by omega) (by omega) (by omega) (by omega) (by omega) ?_
      have k1 := ct_iff (l := s.data.toList) (k := 1) (by omega)
      have k2 := ct_iff (l := s.data.toList) (k := 2) (by omega)
      have k3 := ct_iff (l := s.data.toList) (k := 3) (by omega)
      rw [q1] at k1
      rw [q2] at k2
      rw [q3] at k3
      by_cases d : Pl.ct s.data.toList 1 = true ∧ Pl.ct s.data.toList 2 = true ∧ Pl.ct s.data.toList 3 = true
      · have m1 := k1.1 d.1
        have m2 := k2.1 d.2.1
        have m3 := k3.1 d.2.2
        rw [hr, if_pos d, q0, q1, q2, q3]
        split
        · exact .inr ⟨fun e => by omega, rfl, rfl, rfl⟩
        · exact .inl ⟨by omega, by dsimp only; omega, rfl, rfl⟩
      · rw [hr, if_neg d]
        exact .inr ⟨fun e => d ⟨k1.2 (by omega), k2.2 (by omega), k3.2 (by omega)⟩, rfl, rfl, rfl⟩
    · refine rr4s s w x0 _ _ _ h hs hx0 (by omega) (by omega) (by omega) (by omega) ?_
      rw [hr, if_neg (fun e => ct_out (k := 3) (by omega) e.2.2)]
      exact .inr ⟨trivial, rfl, rfl, rfl⟩
  · refine rr1 s w x0 _ _ _ h hs hx0 (by omega) (by omega) ?_
    by_cases d : x0 < 128
    · have hr : Pl.rune s.data.toList = (Pl.g s.data.toList 0, 1, true) := by unfold Pl.rune; rw [if_pos (by omega)]
      rw [hr, q0]
      exact .inl ⟨by omega, rfl, rfl, rfl⟩
    · have hr : Pl.rune s.data.toList = Pl.bad := by unfold Pl.rune; rw [if_neg (by omega), if_neg (by omega), if_neg (by omega), if_neg (by omega)]
      rw [hr]
      exact .inr ⟨by omega, rfl, rfl, rfl⟩
theorem refRune_str (l : List UInt8) (w : World) (h : l ≠ []) (hs : l.length ≤ 281474976710656) :
    Calls Try.prog 22 #[.string (str l)] w fun e w' => e = .returned (.tuple #[.int .i64 ((Pl.rune l).1 : Nat), .int .i64 ((Pl.rune l).2.1 : Nat), .bool (Pl.rune l).2.2]) ∧ w = w' :=
  refRune_any (str l) w (by rw [str_size]; exact List.length_pos_iff.2 h) (by rw [str_size]; exact hs)
end Go.Proofs.Ytodalljccjcejaa
