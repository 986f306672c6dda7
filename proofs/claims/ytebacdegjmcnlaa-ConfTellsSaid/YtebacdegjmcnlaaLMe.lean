/-
  The law of two majorities, its call walked. No condition.
-/
import Derived.Test.YtebacdegjmcnlaaOc
namespace Go.Proofs.Ytebacdegjmcnlaa
set_option maxRecDepth 20000
open Go.RowKit
set_option linter.unusedVariables false
/-- how many members, for the walk -/
theorem len_any (m : Int) : ∀ X, Calls Try.prog 12 #[.int .i64 m] X fun e w' => ∃ A cap, e = .returned (.slice A (CP.cnt m) cap) ∧ Below X.heap.size X w' := fun X => (confList_any m X).mono (by
  rintro e w' ⟨A, cap, rfl, _, _, _, hb⟩
  exact ⟨A, cap, rfl, hb⟩)
set_option maxHeartbeats 2000000 in
theorem law_meets (a b v u : Int) (w : World) (_ : -9223372036854775808 ≤ a) (_ : a ≤ 9223372036854775807) (_ : -9223372036854775808 ≤ b) (_ : b ≤ 9223372036854775807) (_ : -9223372036854775808 ≤ v) (_ : v ≤ 9223372036854775807) (_ : -9223372036854775808 ≤ u) (_ : u ≤ 9223372036854775807) :
    Calls Try.prog 4 #[.int .i64 a, .int .i64 b, .int .i64 v, .int .i64 u] w (RetBelow (.bool true) w) := by
  have HK := Lib.hid awake_any
  have HN := Lib.hid (confNear_any a b)
  have HA := Lib.hid (confMost_any a v)
  have HB := Lib.hid (confMost_any b u)
  have HM : Hid (a = b ∨ CP.near a b = true → CP.most a v = true → CP.most b u = true → 0 < CP.cnt (CP.land (CP.land (CP.land a v) b) u)) := Lib.hid fun h1 h2 h3 => CP.meets h1 h2 h3
  have HL := Lib.hid (len_any (CP.land (CP.land (CP.land a v) b) u))
  have hx1 := bits_land a v
  have hx2 := bits_land (CP.land a v) b
  have hx3 := bits_land (CP.land (CP.land a v) b) u
  have h7 : CP.cnt (CP.land (CP.land (CP.land a v) b) u) ≤ 7 := cnt_le _
  generalize CP.cnt (CP.land (CP.land (CP.land a v) b) u) = n at *
  generalize CP.land (CP.land (CP.land a v) b) u = x3 at *
  generalize CP.land (CP.land a v) b = x2 at *
  generalize CP.land a v = x1 at *
  have B : Hid (Below w.heap.size w w) := Lib.hid (Below.refl _ _)
  generalize CP.near a b = NB at *
  generalize CP.most a v = AB at *
  generalize CP.most b u = BB at *
  by_cases hab : a = b
  · have g0 : decide (a = b) = true := decide_eq_true hab
    have HM2 := Lib.hid (HM.out (.inl hab))
    clear HM
    subst hab
    cases AB <;> cases BB
    all_goals
      go_enter Try.func4, Try.ntmps4
      go_wp2_with (first
        | (go_at_call 12; (with_reducible refine (HL.out _).mono ?_); rintro e w1 ⟨A5, c5, rfl, hb⟩; have B := Lib.hid (B.out.trans (hb.mono B.out.size)); clear hb)
        | (go_at_call 14; (with_reducible refine (HB.out _).mono ?_); rintro e w1 ⟨rfl, hb⟩; have B := Lib.hid (B.out.trans (hb.mono B.out.size)); clear hb)
        | (go_at_call 14; (with_reducible refine (HA.out _).mono ?_); rintro e w1 ⟨rfl, hb⟩; have B := Lib.hid (B.out.trans (hb.mono B.out.size)); clear hb)
        | (go_at_call 16; (with_reducible refine (HN.out _).mono ?_); rintro e w1 ⟨rfl, hb⟩; have B := Lib.hid (B.out.trans (hb.mono B.out.size)); clear hb)
        | (go_at_call 8; (with_reducible refine (HK.out _).mono ?_); rintro e w1 ⟨rfl, hb⟩; have B := Lib.hid (B.out.trans (hb.mono B.out.size)); clear hb))
      all_goals
        refine bodyPost_ret (results_tmp (fn := Try.f4) (t := 8) rfl _ _ _) rfl ?_
        first | exact ⟨rfl, B.out⟩ | (have hp := HM2.out (by trivial) (by trivial); exact ⟨by simp; omega, B.out⟩)
  · have g0 : decide (a = b) = false := decide_eq_false hab
    cases NB
    · clear HM
      go_enter Try.func4, Try.ntmps4
      go_wp2_with (first
        | (go_at_call 12; (with_reducible refine (HL.out _).mono ?_); rintro e w1 ⟨A5, c5, rfl, hb⟩; have B := Lib.hid (B.out.trans (hb.mono B.out.size)); clear hb)
        | (go_at_call 14; (with_reducible refine (HB.out _).mono ?_); rintro e w1 ⟨rfl, hb⟩; have B := Lib.hid (B.out.trans (hb.mono B.out.size)); clear hb)
        | (go_at_call 14; (with_reducible refine (HA.out _).mono ?_); rintro e w1 ⟨rfl, hb⟩; have B := Lib.hid (B.out.trans (hb.mono B.out.size)); clear hb)
        | (go_at_call 16; (with_reducible refine (HN.out _).mono ?_); rintro e w1 ⟨rfl, hb⟩; have B := Lib.hid (B.out.trans (hb.mono B.out.size)); clear hb)
        | (go_at_call 8; (with_reducible refine (HK.out _).mono ?_); rintro e w1 ⟨rfl, hb⟩; have B := Lib.hid (B.out.trans (hb.mono B.out.size)); clear hb))
      all_goals
        refine bodyPost_ret (results_tmp (fn := Try.f4) (t := 8) rfl _ _ _) rfl ?_
        exact ⟨rfl, B.out⟩
    · have HM2 := Lib.hid (HM.out (.inr rfl))
      clear HM
      cases AB <;> cases BB
      all_goals
        go_enter Try.func4, Try.ntmps4
        go_wp2_with (first
          | (go_at_call 12; (with_reducible refine (HL.out _).mono ?_); rintro e w1 ⟨A5, c5, rfl, hb⟩; have B := Lib.hid (B.out.trans (hb.mono B.out.size)); clear hb)
          | (go_at_call 14; (with_reducible refine (HB.out _).mono ?_); rintro e w1 ⟨rfl, hb⟩; have B := Lib.hid (B.out.trans (hb.mono B.out.size)); clear hb)
          | (go_at_call 14; (with_reducible refine (HA.out _).mono ?_); rintro e w1 ⟨rfl, hb⟩; have B := Lib.hid (B.out.trans (hb.mono B.out.size)); clear hb)
          | (go_at_call 16; (with_reducible refine (HN.out _).mono ?_); rintro e w1 ⟨rfl, hb⟩; have B := Lib.hid (B.out.trans (hb.mono B.out.size)); clear hb)
          | (go_at_call 8; (with_reducible refine (HK.out _).mono ?_); rintro e w1 ⟨rfl, hb⟩; have B := Lib.hid (B.out.trans (hb.mono B.out.size)); clear hb))
        all_goals
          refine bodyPost_ret (results_tmp (fn := Try.f4) (t := 8) rfl _ _ _) rfl ?_
          first | exact ⟨rfl, B.out⟩ | (have hp := HM2.out (by trivial) (by trivial); exact ⟨by simp; omega, B.out⟩)
end Go.Proofs.Ytebacdegjmcnlaa
