/-
  The law of near sets, its call walked. No condition.
-/
import Derived.Test.YtebacdegjmcnlaaLMe
namespace Go.Proofs.Ytebacdegjmcnlaa
set_option maxRecDepth 20000
open Go.RowKit
set_option linter.unusedVariables false
set_option maxHeartbeats 2000000 in
theorem law_near (a b : Int) (w : World) (_ : -9223372036854775808 ≤ a) (_ : a ≤ 9223372036854775807) (_ : -9223372036854775808 ≤ b) (_ : b ≤ 9223372036854775807) :
    Calls Try.prog 7 #[.int .i64 a, .int .i64 b] w (RetBelow (.bool true) w) := by
  have HK := Lib.hid awake_any
  have HY := Lib.hid (confMay_any a)
  have HZ := Lib.hid (confMay_any b)
  have HN := Lib.hid (confNear_any a b)
  have HNr := Lib.hid (confNear_any b a)
  have HNs := Lib.hid (confNear_any a a)
  rw [CP.near_comm b a] at HNr
  rw [CP.near_self] at HNs
  have HLo := Lib.hid (len_any (CP.lor a b))
  have HLa := Lib.hid (len_any (CP.land a b))
  have HA := Lib.hid (len_any a)
  have HB := Lib.hid (len_any b)
  have hx1 := bits_lor a b
  have hx2 := bits_land a b
  have c1 : CP.cnt (CP.lor a b) ≤ 7 := cnt_le _
  have c2 : CP.cnt (CP.land a b) ≤ 7 := cnt_le _
  have c3 : CP.cnt a ≤ 7 := cnt_le _
  have c4 : CP.cnt b ≤ 7 := cnt_le _
  have B : Hid (Below w.heap.size w w) := Lib.hid (Below.refl _ _)
  by_cases ha : CP.May a
  · by_cases hb : CP.May b
    · have P1 := CP.near_count ha hb
      have P2 := CP.near_count0 ha hb
      rw [decide_eq_true ha] at HY
      rw [decide_eq_true hb] at HZ
      clear ha hb
      generalize CP.near a b = NB at *
      generalize CP.cnt (CP.lor a b) = n1 at *
      generalize CP.cnt (CP.land a b) = n2 at *
      generalize CP.lor a b = x1 at *
      generalize CP.land a b = x2 at *
      generalize CP.cnt a = n3 at *
      generalize CP.cnt b = n4 at *
      by_cases h0 : x2 = 0
      · have e := P2 h0
        have HE := Lib.hid e
        have g0 : decide (x2 = 0) = true := decide_eq_true h0
        subst h0
        clear P1 P2 e
        cases NB
        all_goals
          go_enter Try.func7, Try.ntmps7
          go_wp2_with (first
            | (go_at_call 12; (with_reducible refine (HB.out _).mono ?_); rintro e w1 ⟨A5, c5, rfl, hb⟩; have B := Lib.hid (B.out.trans (hb.mono B.out.size)); clear hb)
            | (go_at_call 12; (with_reducible refine (HA.out _).mono ?_); rintro e w1 ⟨A5, c5, rfl, hb⟩; have B := Lib.hid (B.out.trans (hb.mono B.out.size)); clear hb)
            | (go_at_call 12; (with_reducible refine (HLa.out _).mono ?_); rintro e w1 ⟨A5, c5, rfl, hb⟩; have B := Lib.hid (B.out.trans (hb.mono B.out.size)); clear hb)
            | (go_at_call 12; (with_reducible refine (HLo.out _).mono ?_); rintro e w1 ⟨A5, c5, rfl, hb⟩; have B := Lib.hid (B.out.trans (hb.mono B.out.size)); clear hb)
            | (go_at_call 9; (with_reducible refine (HZ.out _).mono ?_); rintro e w1 ⟨rfl, hb⟩; have B := Lib.hid (B.out.trans (hb.mono B.out.size)); clear hb)
            | (go_at_call 9; (with_reducible refine (HY.out _).mono ?_); rintro e w1 ⟨rfl, hb⟩; have B := Lib.hid (B.out.trans (hb.mono B.out.size)); clear hb)
            | (go_at_call 16; (with_reducible refine (HNs.out _).mono ?_); rintro e w1 ⟨rfl, hb⟩; have B := Lib.hid (B.out.trans (hb.mono B.out.size)); clear hb)
            | (go_at_call 16; (with_reducible refine (HNr.out _).mono ?_); rintro e w1 ⟨rfl, hb⟩; have B := Lib.hid (B.out.trans (hb.mono B.out.size)); clear hb)
            | (go_at_call 16; (with_reducible refine (HN.out _).mono ?_); rintro e w1 ⟨rfl, hb⟩; have B := Lib.hid (B.out.trans (hb.mono B.out.size)); clear hb)
            | (go_at_call 8; (with_reducible refine (HK.out _).mono ?_); rintro e w1 ⟨rfl, hb⟩; have B := Lib.hid (B.out.trans (hb.mono B.out.size)); clear hb))
          all_goals
            refine bodyPost_ret (results_tmp (fn := Try.f7) (t := 4) rfl _ _ _) rfl ?_
            first | exact ⟨rfl, B.out⟩ | (refine ⟨?_, B.out⟩; have hp := HE.out; simp at hp ⊢; omega)
      · have HE := Lib.hid P1
        have g0 : decide (x2 = 0) = false := decide_eq_false h0
        clear P1 P2
        cases NB
        all_goals
          go_enter Try.func7, Try.ntmps7
          go_wp2_with (first
            | (go_at_call 12; (with_reducible refine (HB.out _).mono ?_); rintro e w1 ⟨A5, c5, rfl, hb⟩; have B := Lib.hid (B.out.trans (hb.mono B.out.size)); clear hb)
            | (go_at_call 12; (with_reducible refine (HA.out _).mono ?_); rintro e w1 ⟨A5, c5, rfl, hb⟩; have B := Lib.hid (B.out.trans (hb.mono B.out.size)); clear hb)
            | (go_at_call 12; (with_reducible refine (HLa.out _).mono ?_); rintro e w1 ⟨A5, c5, rfl, hb⟩; have B := Lib.hid (B.out.trans (hb.mono B.out.size)); clear hb)
            | (go_at_call 12; (with_reducible refine (HLo.out _).mono ?_); rintro e w1 ⟨A5, c5, rfl, hb⟩; have B := Lib.hid (B.out.trans (hb.mono B.out.size)); clear hb)
            | (go_at_call 9; (with_reducible refine (HZ.out _).mono ?_); rintro e w1 ⟨rfl, hb⟩; have B := Lib.hid (B.out.trans (hb.mono B.out.size)); clear hb)
            | (go_at_call 9; (with_reducible refine (HY.out _).mono ?_); rintro e w1 ⟨rfl, hb⟩; have B := Lib.hid (B.out.trans (hb.mono B.out.size)); clear hb)
            | (go_at_call 16; (with_reducible refine (HNs.out _).mono ?_); rintro e w1 ⟨rfl, hb⟩; have B := Lib.hid (B.out.trans (hb.mono B.out.size)); clear hb)
            | (go_at_call 16; (with_reducible refine (HNr.out _).mono ?_); rintro e w1 ⟨rfl, hb⟩; have B := Lib.hid (B.out.trans (hb.mono B.out.size)); clear hb)
            | (go_at_call 16; (with_reducible refine (HN.out _).mono ?_); rintro e w1 ⟨rfl, hb⟩; have B := Lib.hid (B.out.trans (hb.mono B.out.size)); clear hb)
            | (go_at_call 8; (with_reducible refine (HK.out _).mono ?_); rintro e w1 ⟨rfl, hb⟩; have B := Lib.hid (B.out.trans (hb.mono B.out.size)); clear hb))
          all_goals
            refine bodyPost_ret (results_tmp (fn := Try.f7) (t := 4) rfl _ _ _) rfl ?_
            first | exact ⟨rfl, B.out⟩ | (refine ⟨?_, B.out⟩; have hp := HE.out; simp at hp ⊢; omega)
    · rw [decide_eq_true ha] at HY
      rw [decide_eq_false hb] at HZ
      rw [CP.near_not (.inr hb)] at HN HNr
      clear ha hb HLo HLa HA HB hx1 hx2 c1 c2 c3 c4
      go_enter Try.func7, Try.ntmps7
      go_wp2_with (first
        | (go_at_call 9; (with_reducible refine (HZ.out _).mono ?_); rintro e w1 ⟨rfl, hb⟩; have B := Lib.hid (B.out.trans (hb.mono B.out.size)); clear hb)
        | (go_at_call 9; (with_reducible refine (HY.out _).mono ?_); rintro e w1 ⟨rfl, hb⟩; have B := Lib.hid (B.out.trans (hb.mono B.out.size)); clear hb)
        | (go_at_call 16; (with_reducible refine (HNs.out _).mono ?_); rintro e w1 ⟨rfl, hb⟩; have B := Lib.hid (B.out.trans (hb.mono B.out.size)); clear hb)
        | (go_at_call 16; (with_reducible refine (HNr.out _).mono ?_); rintro e w1 ⟨rfl, hb⟩; have B := Lib.hid (B.out.trans (hb.mono B.out.size)); clear hb)
        | (go_at_call 16; (with_reducible refine (HN.out _).mono ?_); rintro e w1 ⟨rfl, hb⟩; have B := Lib.hid (B.out.trans (hb.mono B.out.size)); clear hb)
        | (go_at_call 8; (with_reducible refine (HK.out _).mono ?_); rintro e w1 ⟨rfl, hb⟩; have B := Lib.hid (B.out.trans (hb.mono B.out.size)); clear hb))
      all_goals
        refine bodyPost_ret (results_tmp (fn := Try.f7) (t := 4) rfl _ _ _) rfl ?_
        exact ⟨rfl, B.out⟩
  · rw [decide_eq_false ha] at HY
    rw [CP.near_not (.inl ha)] at HN HNr
    clear ha HLo HLa HA HB hx1 hx2 c1 c2 c3 c4
    go_enter Try.func7, Try.ntmps7
    go_wp2_with (first
      | (go_at_call 9; (with_reducible refine (HZ.out _).mono ?_); rintro e w1 ⟨rfl, hb⟩; have B := Lib.hid (B.out.trans (hb.mono B.out.size)); clear hb)
      | (go_at_call 9; (with_reducible refine (HY.out _).mono ?_); rintro e w1 ⟨rfl, hb⟩; have B := Lib.hid (B.out.trans (hb.mono B.out.size)); clear hb)
      | (go_at_call 16; (with_reducible refine (HNs.out _).mono ?_); rintro e w1 ⟨rfl, hb⟩; have B := Lib.hid (B.out.trans (hb.mono B.out.size)); clear hb)
      | (go_at_call 16; (with_reducible refine (HNr.out _).mono ?_); rintro e w1 ⟨rfl, hb⟩; have B := Lib.hid (B.out.trans (hb.mono B.out.size)); clear hb)
      | (go_at_call 16; (with_reducible refine (HN.out _).mono ?_); rintro e w1 ⟨rfl, hb⟩; have B := Lib.hid (B.out.trans (hb.mono B.out.size)); clear hb)
      | (go_at_call 8; (with_reducible refine (HK.out _).mono ?_); rintro e w1 ⟨rfl, hb⟩; have B := Lib.hid (B.out.trans (hb.mono B.out.size)); clear hb))
    all_goals
      refine bodyPost_ret (results_tmp (fn := Try.f7) (t := 4) rfl _ _ _) rfl ?_
      exact ⟨rfl, B.out⟩
end Go.Proofs.Ytebacdegjmcnlaa
