/-
  The law of votes, its call walked. No condition.
-/
import Derived.Test.YtebacdegjmcnlaaLMe
namespace Go.Proofs.Ytebacdegjmcnlaa
set_option maxRecDepth 20000
open Go.RowKit
set_option linter.unusedVariables false
set_option maxHeartbeats 2000000 in
theorem law_votes (m v u : Int) (w : World) (_ : -9223372036854775808 ≤ m) (_ : m ≤ 9223372036854775807) (_ : -9223372036854775808 ≤ v) (_ : v ≤ 9223372036854775807) (_ : -9223372036854775808 ≤ u) (_ : u ≤ 9223372036854775807) :
    Calls Try.prog 6 #[.int .i64 m, .int .i64 v, .int .i64 u] w (RetBelow (.bool true) w) := by
  have HK := Lib.hid awake_any
  have HY := Lib.hid (confMay_any m)
  have HV := Lib.hid (confMost_any m v)
  have HMm := Lib.hid (confMost_any m m)
  have HM0 := Lib.hid (confMost_any m 0)
  have HVU := Lib.hid (confMost_any m (CP.lor v u))
  have HVN := Lib.hid (confMost_any m (CP.lxor (-1) v))
  have HL := Lib.hid (len_any m)
  have hx1 := bits_lor v u
  have hx2 := bits_lxor (-1) v
  have hx3 : bits .xor .i64 v (-1) = CP.lxor (-1) v := by rw [CP.lxor_comm]; exact bits_lxor v (-1)
  have B : Hid (Below w.heap.size w w) := Lib.hid (Below.refl _ _)
  by_cases hm : CP.May m
  · have P1 := CP.most_all hm
    have P2 := CP.most_none (m := m)
    have P3 : CP.most m v = true → CP.most m (CP.lor v u) = true := fun h => CP.most_more u h
    have P4 : CP.most m v = true → CP.most m (CP.lxor (-1) v) = false := fun h => CP.most_other h
    rw [decide_eq_true hm] at HY
    rw [P1] at HMm
    rw [P2] at HM0
    clear hm P1 P2
    cases hV : CP.most m v with
    | false =>
      rw [hV] at HV
      clear P3 P4 hV
      generalize CP.lor v u = x1 at *
      generalize CP.lxor (-1) v = x2 at *
      go_enter Try.func6, Try.ntmps6
      go_wp2_with (first
        | (go_at_call 12; (with_reducible refine (HL.out _).mono ?_); rintro e w1 ⟨A5, c5, rfl, hb⟩; have B := Lib.hid (B.out.trans (hb.mono B.out.size)); clear hb)
        | (go_at_call 14; (with_reducible refine (HVN.out _).mono ?_); rintro e w1 ⟨rfl, hb⟩; have B := Lib.hid (B.out.trans (hb.mono B.out.size)); clear hb)
        | (go_at_call 14; (with_reducible refine (HVU.out _).mono ?_); rintro e w1 ⟨rfl, hb⟩; have B := Lib.hid (B.out.trans (hb.mono B.out.size)); clear hb)
        | (go_at_call 14; (with_reducible refine (HV.out _).mono ?_); rintro e w1 ⟨rfl, hb⟩; have B := Lib.hid (B.out.trans (hb.mono B.out.size)); clear hb)
        | (go_at_call 14; (with_reducible refine (HM0.out _).mono ?_); rintro e w1 ⟨rfl, hb⟩; have B := Lib.hid (B.out.trans (hb.mono B.out.size)); clear hb)
        | (go_at_call 14; (with_reducible refine (HMm.out _).mono ?_); rintro e w1 ⟨rfl, hb⟩; have B := Lib.hid (B.out.trans (hb.mono B.out.size)); clear hb)
        | (go_at_call 9; (with_reducible refine (HY.out _).mono ?_); rintro e w1 ⟨rfl, hb⟩; have B := Lib.hid (B.out.trans (hb.mono B.out.size)); clear hb)
        | (go_at_call 8; (with_reducible refine (HK.out _).mono ?_); rintro e w1 ⟨rfl, hb⟩; have B := Lib.hid (B.out.trans (hb.mono B.out.size)); clear hb))
      all_goals
        refine bodyPost_ret (results_tmp (fn := Try.f6) (t := 6) rfl _ _ _) rfl ?_
        exact ⟨rfl, B.out⟩
    | true =>
      rw [hV] at HV
      rw [P3 hV] at HVU
      rw [P4 hV] at HVN
      clear P3 P4 hV
      generalize CP.lor v u = x1 at *
      generalize CP.lxor (-1) v = x2 at *
      go_enter Try.func6, Try.ntmps6
      go_wp2_with (first
        | (go_at_call 12; (with_reducible refine (HL.out _).mono ?_); rintro e w1 ⟨A5, c5, rfl, hb⟩; have B := Lib.hid (B.out.trans (hb.mono B.out.size)); clear hb)
        | (go_at_call 14; (with_reducible refine (HVN.out _).mono ?_); rintro e w1 ⟨rfl, hb⟩; have B := Lib.hid (B.out.trans (hb.mono B.out.size)); clear hb)
        | (go_at_call 14; (with_reducible refine (HVU.out _).mono ?_); rintro e w1 ⟨rfl, hb⟩; have B := Lib.hid (B.out.trans (hb.mono B.out.size)); clear hb)
        | (go_at_call 14; (with_reducible refine (HV.out _).mono ?_); rintro e w1 ⟨rfl, hb⟩; have B := Lib.hid (B.out.trans (hb.mono B.out.size)); clear hb)
        | (go_at_call 14; (with_reducible refine (HM0.out _).mono ?_); rintro e w1 ⟨rfl, hb⟩; have B := Lib.hid (B.out.trans (hb.mono B.out.size)); clear hb)
        | (go_at_call 14; (with_reducible refine (HMm.out _).mono ?_); rintro e w1 ⟨rfl, hb⟩; have B := Lib.hid (B.out.trans (hb.mono B.out.size)); clear hb)
        | (go_at_call 9; (with_reducible refine (HY.out _).mono ?_); rintro e w1 ⟨rfl, hb⟩; have B := Lib.hid (B.out.trans (hb.mono B.out.size)); clear hb)
        | (go_at_call 8; (with_reducible refine (HK.out _).mono ?_); rintro e w1 ⟨rfl, hb⟩; have B := Lib.hid (B.out.trans (hb.mono B.out.size)); clear hb))
      all_goals
        refine bodyPost_ret (results_tmp (fn := Try.f6) (t := 6) rfl _ _ _) rfl ?_
        exact ⟨rfl, B.out⟩
  · rw [decide_eq_false hm] at HY
    rw [CP.most_not hm] at HV
    rw [CP.cnt_not hm] at HL
    clear hm HMm HM0 HVU HVN hx1 hx2 hx3
    go_enter Try.func6, Try.ntmps6
    go_wp2_with (first
      | (go_at_call 12; (with_reducible refine (HL.out _).mono ?_); rintro e w1 ⟨A5, c5, rfl, hb⟩; have B := Lib.hid (B.out.trans (hb.mono B.out.size)); clear hb)
      | (go_at_call 14; (with_reducible refine (HV.out _).mono ?_); rintro e w1 ⟨rfl, hb⟩; have B := Lib.hid (B.out.trans (hb.mono B.out.size)); clear hb)
      | (go_at_call 9; (with_reducible refine (HY.out _).mono ?_); rintro e w1 ⟨rfl, hb⟩; have B := Lib.hid (B.out.trans (hb.mono B.out.size)); clear hb)
      | (go_at_call 8; (with_reducible refine (HK.out _).mono ?_); rintro e w1 ⟨rfl, hb⟩; have B := Lib.hid (B.out.trans (hb.mono B.out.size)); clear hb))
    all_goals
      refine bodyPost_ret (results_tmp (fn := Try.f6) (t := 6) rfl _ _ _) rfl ?_
      exact ⟨rfl, B.out⟩
end Go.Proofs.Ytebacdegjmcnlaa
