/-
  Most and near, as the program tells them. No condition.
-/
import Derived.Test.YtebacdegjmcnlaaLi
namespace Go.Proofs.Ytebacdegjmcnlaa
set_option maxRecDepth 20000
open Go.RowKit
set_option linter.unusedVariables false
theorem cnt_le (m : Int) : (CP.lst m).length ≤ 7 := by
  unfold CP.lst
  split
  · exact Nat.le_trans (List.length_filter_le _ _) (by simp)
  · simp
theorem confMost_any (m v : Int) (w : World) : Calls Try.prog 14 #[.int .i64 m, .int .i64 v] w (RetBelow (.bool (CP.most m v)) w) := by
  have HM : Hid (∀ X, Calls Try.prog 9 #[.int .i64 m] X (RetBelow (.bool (decide (CP.May m))) X)) := Lib.hid fun X => confMay_any m X
  have HL1 : Hid (∀ X, Calls Try.prog 12 #[.int .i64 (CP.land m v)] X (LsP (CP.lst (CP.land m v)) X)) := Lib.hid fun X => confList_any _ X
  have HL2 : Hid (∀ X, Calls Try.prog 12 #[.int .i64 m] X (LsP (CP.lst m) X)) := Lib.hid fun X => confList_any _ X
  have hx := bits_land m v
  have c1 := cnt_le m
  have c2 := cnt_le (CP.land m v)
  have e : CP.most m v = (decide (CP.May m) && decide (2 * ((CP.lst (CP.land m v)).length : Int) > ((CP.lst m).length : Int))) := by
    unfold CP.most CP.cnt
    congr 1
    exact decide_eq_decide.2 ⟨fun h => by omega, fun h => by omega⟩
  rw [e]
  generalize CP.lst (CP.land m v) = L1 at *
  generalize CP.lst m = L2 at *
  generalize CP.land m v = lv at *
  clear e
  cases hM : decide (CP.May m) with
  | false =>
    rw [hM] at HM
    rw [Bool.false_and]
    clear hM
    go_enter Try.func14, Try.ntmps14
    go_wp2_with (go_at_call 9; (with_reducible refine (HM.out _).mono ?_); rintro e w1 ⟨rfl, hb1⟩)
    refine bodyPost_ret (results_tmp (fn := Try.f14) (t := 4) rfl _ _ _) rfl ?_
    exact ⟨rfl, hb1⟩
  | true =>
    rw [hM] at HM
    rw [Bool.true_and]
    clear hM
    go_enter Try.func14, Try.ntmps14
    go_wp2_with (first
      | (go_at_call 9; (with_reducible refine (HM.out _).mono ?_); rintro e w1 ⟨rfl, hb1⟩)
      | (go_at_call 12; (with_reducible refine (HL1.out _).mono ?_); rintro e w2 ⟨A2, cap2, rfl, _, _, _, hb2⟩)
      | (go_at_call 12; (with_reducible refine (HL2.out _).mono ?_); rintro e w3 ⟨A3, cap3, rfl, _, _, _, hb3⟩))
    refine bodyPost_ret (results_tmp (fn := Try.f14) (t := 4) rfl _ _ _) rfl ?_
    exact ⟨rfl, (hb1.trans (hb2.mono hb1.size)).trans (hb3.mono (by have := hb1.size; have := hb2.size; omega))⟩
theorem confNear_any (a b : Int) (w : World) : Calls Try.prog 16 #[.int .i64 a, .int .i64 b] w (RetBelow (.bool (CP.near a b)) w) := by
  have HA : Hid (∀ X, Calls Try.prog 9 #[.int .i64 a] X (RetBelow (.bool (decide (CP.May a))) X)) := Lib.hid fun X => confMay_any a X
  have HB : Hid (∀ X, Calls Try.prog 9 #[.int .i64 b] X (RetBelow (.bool (decide (CP.May b))) X)) := Lib.hid fun X => confMay_any b X
  have HL : Hid (∀ X, Calls Try.prog 12 #[.int .i64 (CP.lxor a b)] X (LsP (CP.lst (CP.lxor a b)) X)) := Lib.hid fun X => confList_any _ X
  have hx := bits_lxor a b
  have e : CP.near a b = (decide (CP.May a) && decide (CP.May b) && decide (((CP.lst (CP.lxor a b)).length : Int) = 1)) := by
    unfold CP.near CP.cnt
    congr 1
    exact decide_eq_decide.2 ⟨fun h => by omega, fun h => by omega⟩
  rw [e]
  generalize CP.lst (CP.lxor a b) = L at *
  generalize CP.lxor a b = lv at *
  clear e
  cases hA : decide (CP.May a) with
  | false =>
    rw [hA] at HA
    rw [Bool.false_and, Bool.false_and]
    clear hA
    go_enter Try.func16, Try.ntmps16
    go_wp2_with (go_at_call 9; (with_reducible refine (HA.out _).mono ?_); rintro e w1 ⟨rfl, hb1⟩)
    refine bodyPost_ret (results_tmp (fn := Try.f16) (t := 4) rfl _ _ _) rfl ?_
    exact ⟨rfl, hb1⟩
  | true =>
    rw [hA] at HA
    clear hA
    cases hB : decide (CP.May b) with
    | false =>
      rw [hB] at HB
      rw [Bool.true_and, Bool.false_and]
      clear hB
      go_enter Try.func16, Try.ntmps16
      go_wp2_with (first
        | (go_at_call 9; (with_reducible refine (HA.out _).mono ?_); rintro e w1 ⟨rfl, hb1⟩)
        | (go_at_call 9; (with_reducible refine (HB.out _).mono ?_); rintro e w2 ⟨rfl, hb2⟩))
      refine bodyPost_ret (results_tmp (fn := Try.f16) (t := 4) rfl _ _ _) rfl ?_
      exact ⟨rfl, hb1.trans (hb2.mono hb1.size)⟩
    | true =>
      rw [hB] at HB
      clear hB
      rw [Bool.true_and, Bool.true_and]
      go_enter Try.func16, Try.ntmps16
      go_wp2_with (first
        | (go_at_call 9; (with_reducible refine (HA.out _).mono ?_); rintro e w1 ⟨rfl, hb1⟩)
        | (go_at_call 9; (with_reducible refine (HB.out _).mono ?_); rintro e w2 ⟨rfl, hb2⟩)
        | (go_at_call 12; (with_reducible refine (HL.out _).mono ?_); rintro e w3 ⟨A3, cap3, rfl, _, _, _, hb3⟩))
      refine bodyPost_ret (results_tmp (fn := Try.f16) (t := 4) rfl _ _ _) rfl ?_
      exact ⟨rfl, (hb1.trans (hb2.mono hb1.size)).trans (hb3.mono (by have := hb1.size; have := hb2.size; omega))⟩
end Go.Proofs.Ytebacdegjmcnlaa
