import Derived.Test.YtiedeneglhboiaaMh
namespace Go.Proofs.Ytiedeneglhboiaa
open Go.RowKit Pl
set_option linter.unusedVariables false
set_option maxRecDepth 20000
theorem may_any (o : Int) (s t : ByteArray) (a b c n : Int) (w : World) (hs : s.size ≤ 281474976710656) (ht : t.size ≤ 281474976710656) : Calls Try.prog 13 #[.agg #[.int .i64 o, .string s, .string t, .int .i64 a, .int .i64 b, .int .i64 c, .int .i64 n]] w (MayPost o s t a b c n w) := by
  have HS := Lib.hid hs
  have HT := Lib.hid ht
  have HB := Lib.hid ((Below.refl w.heap.size w).alloc (Nat.le_refl _) (.cells #[.int .i64 o, .string s, .string t, .int .i64 a, .int .i64 b, .int .i64 c, .int .i64 n] 25))
  have HR := Lib.hid (heap_alloc_new w (.cells #[.int .i64 o, .string s, .string t, .int .i64 a, .int .i64 b, .int .i64 c, .int .i64 n] 25))
  clear hs ht
  cases hm : Nm.may s.data.toList
  · go_enter Try.func13, Try.ntmps13
    go_wp2_with (go_at_call 29; (with_reducible refine (Nm.may_any _ _ HS.out).mono ?_); rintro e w1 ⟨rfl, hb1⟩; rw [hm]; have B1 := Lib.hid hb1; clear hb1)
    go_ret
    exact mayPost (by simp [mayC, hm]) (HB.out.trans (B1.out.mono HB.out.size))
  · go_enter Try.func13, Try.ntmps13
    go_wp2_with (first
      | (go_at_call 29; (with_reducible refine (Nm.may_any _ _ HS.out).mono ?_); rintro e w1 ⟨rfl, hb1⟩; rw [hm]; have B1 := Lib.hid hb1; obtain ⟨x0, x1, x2, x3, x4, x5, x6⟩ := row7 ((hb1.block w.heap.size (by simp)).trans HR.out); clear hb1)
      | (go_at_call 30; (with_reducible refine (fieldsFit_any _ _ _ _ _ _ _ _ HT.out).mono ?_); rintro e w2 ⟨rfl, hb2⟩; have B2 := Lib.hid hb2; clear hb2))
    go_ret
    exact mayPost (by simp [mayC, hm]) (HB.out.trans ((B1.out.trans (B2.out.mono B1.out.size)).mono HB.out.size))
def asksC (o : Int) (s t : ByteArray) (a b c n : Int) : Bool := (o == 8 || (o == 9 || o == 10)) && mayC o s t a b c n
def AsksPost (o : Int) (s t : ByteArray) (a b c n : Int) (w : World) (e : Ending) (w' : World) : Prop := e = .returned (.bool (asksC o s t a b c n)) ∧ Below w.heap.size w w'
theorem asksPost {o : Int} {s t : ByteArray} {a b c n : Int} {w w' : World} {x : Bool} (h : x = asksC o s t a b c n) (hb : Below w.heap.size w w') : AsksPost o s t a b c n w (.returned (.bool x)) w' := ⟨by rw [h], hb⟩
theorem asks_any (o : Int) (s t : ByteArray) (a b c n : Int) (w : World) (hs : s.size ≤ 281474976710656) (ht : t.size ≤ 281474976710656) : Calls Try.prog 15 #[.agg #[.int .i64 o, .string s, .string t, .int .i64 a, .int .i64 b, .int .i64 c, .int .i64 n]] w (AsksPost o s t a b c n w) := by
  have HS := Lib.hid hs
  have HT := Lib.hid ht
  have HB := Lib.hid ((Below.refl w.heap.size w).alloc (Nat.le_refl _) (.cells #[.int .i64 o, .string s, .string t, .int .i64 a, .int .i64 b, .int .i64 c, .int .i64 n] 25))
  clear hs ht
  by_cases h8 : o = 8
  · subst h8
    go_enter Try.func15, Try.ntmps15
    go_wp2_with (go_at_call 13; (with_reducible refine (may_any _ _ _ _ _ _ _ _ HS.out HT.out).mono ?_); rintro e w1 ⟨rfl, hb1⟩; have B1 := Lib.hid hb1; clear hb1)
    go_ret
    exact asksPost (by simp [asksC]) (HB.out.trans (B1.out.mono HB.out.size))
  by_cases h9 : o = 9
  · subst h9
    go_enter Try.func15, Try.ntmps15
    go_wp2_with (go_at_call 13; (with_reducible refine (may_any _ _ _ _ _ _ _ _ HS.out HT.out).mono ?_); rintro e w1 ⟨rfl, hb1⟩; have B1 := Lib.hid hb1; clear hb1)
    go_ret
    exact asksPost (by simp [asksC]) (HB.out.trans (B1.out.mono HB.out.size))
  by_cases h10 : o = 10
  · subst h10
    go_enter Try.func15, Try.ntmps15
    go_wp2_with (go_at_call 13; (with_reducible refine (may_any _ _ _ _ _ _ _ _ HS.out HT.out).mono ?_); rintro e w1 ⟨rfl, hb1⟩; have B1 := Lib.hid hb1; clear hb1)
    go_ret
    exact asksPost (by simp [asksC]) (HB.out.trans (B1.out.mono HB.out.size))
  have g8 : (o == 8) = false := by simpa using h8
  have g9 : (o == 9) = false := by simpa using h9
  have g10 : (o == 10) = false := by simpa using h10
  go_enter Try.func15, Try.ntmps15
  go_wp2_with fail
  go_ret
  exact asksPost (by simp [asksC, g8, g9, g10]) HB.out
theorem refAsks_any (o : Int) (s t : ByteArray) (a b c n : Int) (w : World) (hs : s.size ≤ 281474976710656) (ht : t.size ≤ 281474976710656) : Calls Try.prog 16 #[.agg #[.int .i64 o, .string s, .string t, .int .i64 a, .int .i64 b, .int .i64 c, .int .i64 n]] w (AsksPost o s t a b c n w) := by
  have HS := Lib.hid hs
  have HT := Lib.hid ht
  have HB := Lib.hid ((Below.refl w.heap.size w).alloc (Nat.le_refl _) (.cells #[.int .i64 o, .string s, .string t, .int .i64 a, .int .i64 b, .int .i64 c, .int .i64 n] 25))
  have HR := Lib.hid (heap_alloc_new w (.cells #[.int .i64 o, .string s, .string t, .int .i64 a, .int .i64 b, .int .i64 c, .int .i64 n] 25))
  clear hs ht
  cases hm : mayC o s t a b c n
  · go_enter Try.func16, Try.ntmps16
    go_wp2_with (go_at_call 14; (with_reducible refine (refMay_any _ _ _ _ _ _ _ _ HS.out HT.out).mono ?_); rintro e w1 ⟨rfl, hb1⟩; rw [hm]; have B1 := Lib.hid hb1; clear hb1)
    go_ret
    exact asksPost (by simp [asksC, hm]) (HB.out.trans (B1.out.mono HB.out.size))
  · have hr : (1 ≤ o ∧ o ≤ 10) := by
      unfold mayC fitF at hm
      by_cases h1 : 1 ≤ o ∧ o ≤ 10
      · exact h1
      · rw [if_neg (by omega), if_neg (by omega), if_neg (by omega), if_neg (by omega), if_neg (by omega)] at hm
        simp at hm
    have he : decide (8 ≤ o) = (o == 8 || (o == 9 || o == 10)) := by
      rw [Bool.eq_iff_iff]; simp; omega
    have HE := Lib.hid he
    clear he hr
    go_enter Try.func16, Try.ntmps16
    go_wp2_with (go_at_call 14; (with_reducible refine (refMay_any _ _ _ _ _ _ _ _ HS.out HT.out).mono ?_); rintro e w1 ⟨rfl, hb1⟩; rw [hm]; have B1 := Lib.hid hb1; obtain ⟨x0, x1, x2, x3, x4, x5, x6⟩ := row7 ((hb1.block w.heap.size (by simp)).trans HR.out); clear hb1)
    go_ret
    exact asksPost (by simp [asksC, hm, ← HE.out]) (HB.out.trans (B1.out.mono HB.out.size))
/-- a reply may be packed -/
def mayR (e : Int) (s : ByteArray) : Bool := decide (0 ≤ e) && (decide (e ≤ 255) && decide (s.size ≤ 1000))
theorem mayReply_any (o : Int) (s : ByteArray) (a b c n : Int) (w : World) : Calls Try.prog 39 #[.agg #[.int .i64 o, .string s, .int .i64 a, .int .i64 b, .int .i64 c, .int .i64 n]] w (RetBelow (.bool (mayR o s)) w) := by
  have HB := Lib.hid ((Below.refl w.heap.size w).alloc (Nat.le_refl _) (.cells #[.int .i64 o, .string s, .int .i64 a, .int .i64 b, .int .i64 c, .int .i64 n] 34))
  by_cases h0 : 0 ≤ o
  · by_cases h1 : o ≤ 255
    · go_enter Try.func39, Try.ntmps39
      go_wp2_with fail
      go_ret
      exact ⟨by simp [mayR, h0, h1]; omega, HB.out⟩
    · go_enter Try.func39, Try.ntmps39
      go_wp2_with fail
      go_ret
      exact ⟨by simp [mayR, h0]; omega, HB.out⟩
  · go_enter Try.func39, Try.ntmps39
    go_wp2_with fail
    go_ret
    exact ⟨by simp [mayR]; omega, HB.out⟩
end Go.Proofs.Ytiedeneglhboiaa
