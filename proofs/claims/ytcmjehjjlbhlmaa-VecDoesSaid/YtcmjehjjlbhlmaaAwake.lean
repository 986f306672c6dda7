import Derived.Test.YtcmjehjjlbhlmaaShare
namespace Go.Proofs.Ytcmjehjjlbhlmaa
open Go.RowKit
set_option linter.unusedVariables false
theorem ok_small (x : Int) (h0 : -10 ≤ x) (h1 : x ≤ 10) : I64 x := ⟨by omega, by omega⟩
theorem ok_max : I64 9223372036854775807 := ⟨by omega, by omega⟩
theorem aw_sum (W : World) : Calls Try.prog 21 #[.slice (some ⟨W.heap.size, 0, none⟩) 3 3] (W.alloc (.cells #[.int .i64 9223372036854775807, .int .i64 0, .int .i64 0, .int .i64 1, .int .i64 0, .int .i64 0, .int .i64 (-1), .int .i64 0, .int .i64 0] 23))
    (RetBelow (.tuple #[.agg #[.int .i64 9223372036854775807, .int .i64 0, .int .i64 0], .int .i64 0]) (W.alloc (.cells #[.int .i64 9223372036854775807, .int .i64 0, .int .i64 0, .int .i64 1, .int .i64 0, .int .i64 0, .int .i64 (-1), .int .i64 0, .int .i64 0] 23))) := by
  have := sum3 9223372036854775807 0 0 1 0 0 (-1) 0 0 W ok_max (ok_small 0 (by omega) (by omega)) (ok_small 0 (by omega) (by omega)) (ok_small 1 (by omega) (by omega)) (ok_small 0 (by omega) (by omega)) (ok_small 0 (by omega) (by omega)) (ok_small (-1) (by omega) (by omega)) (ok_small 0 (by omega) (by omega)) (ok_small 0 (by omega) (by omega))
  unfold outV at this
  rw [if_pos (by decide)] at this
  exact this
theorem aw_add (W : World) : Calls Try.prog 11 #[.agg #[.int .i64 9223372036854775807, .int .i64 0, .int .i64 0], .agg #[.int .i64 1, .int .i64 0, .int .i64 0]] W (RetBelow (.tuple #[.agg #[.int .i64 0, .int .i64 0, .int .i64 0], .int .i64 6]) W) := by
  have := add_ret 9223372036854775807 0 0 1 0 0 W ok_max (ok_small 0 (by omega) (by omega)) (ok_small 0 (by omega) (by omega)) (ok_small 1 (by omega) (by omega)) (ok_small 0 (by omega) (by omega)) (ok_small 0 (by omega) (by omega))
  unfold outV at this
  rw [if_neg (by decide)] at this
  exact this
theorem aw_sub (W : World) : Calls Try.prog 13 #[.agg #[.int .i64 5, .int .i64 4, .int .i64 3], .agg #[.int .i64 1, .int .i64 1, .int .i64 1]] W (RetBelow (.tuple #[.agg #[.int .i64 4, .int .i64 3, .int .i64 2], .int .i64 0]) W) := by
  have := sub_ret 5 4 3 1 1 1 W (ok_small 5 (by omega) (by omega)) (ok_small 4 (by omega) (by omega)) (ok_small 3 (by omega) (by omega)) (ok_small 1 (by omega) (by omega)) (ok_small 1 (by omega) (by omega)) (ok_small 1 (by omega) (by omega))
  unfold outV at this
  rw [if_pos (by decide)] at this
  exact this
theorem aw_may1 (W : World) : Calls Try.prog 15 #[.agg #[.int .i64 9223372036854775807, .int .i64 0, .int .i64 0]] W (RetBelow (.bool true) W) := may_any _ _ _ W
theorem aw_may2 (W : World) : Calls Try.prog 15 #[.agg #[.int .i64 0, .int .i64 (-1), .int .i64 0]] W (RetBelow (.bool false) W) := may_any _ _ _ W
theorem aw_fits1 (W : World) : Calls Try.prog 17 #[.agg #[.int .i64 4, .int .i64 3, .int .i64 2], .agg #[.int .i64 4, .int .i64 3, .int .i64 2]] W (RetBelow (.bool true) W) := fits_any _ _ _ _ _ _ W
theorem aw_fits2 (W : World) : Calls Try.prog 17 #[.agg #[.int .i64 9223372036854775807, .int .i64 0, .int .i64 0], .agg #[.int .i64 4, .int .i64 3, .int .i64 2]] W (RetBelow (.bool false) W) := fits_any _ _ _ _ _ _ W
theorem aw_share (W : World) : Calls Try.prog 19 #[.agg #[.int .i64 1, .int .i64 0, .int .i64 5], .agg #[.int .i64 3, .int .i64 0, .int .i64 5]] W (RetBelow (.int .i64 1000) W) :=
  share_any 1 0 5 3 0 5 W (ok_small 1 (by omega) (by omega)) (ok_small 0 (by omega) (by omega)) (ok_small 5 (by omega) (by omega)) (ok_small 3 (by omega) (by omega)) (ok_small 0 (by omega) (by omega)) (ok_small 5 (by omega) (by omega))
set_option maxRecDepth 20000 in
set_option maxHeartbeats 1000000 in
theorem awake_any (w : World) : Calls Try.prog 10 #[] w (RetBelow (.bool true) w) := by
  have b1 := fun W => build23_1 9223372036854775807 W
  have b2 := fun W => build23_1 1 W
  have b3 := fun W => build23_1 (-1) W
  have b4 := fun W => build23_3 5 4 3 W
  have b5 := fun W => build23_3 1 1 1 W
  have b6 := fun W => build23_3 4 3 2 W
  have b7 := fun W => build23_3 0 (-1) 0 W
  have b8 := fun W => build23_3 1 0 5 W
  have b9 := fun W => build23_3 3 0 5 W
  have q1 := fun W => eq23 9223372036854775807 0 0 9223372036854775807 0 0 W
  have q2 := fun W => eq23 4 3 2 4 3 2 W
  rw [eqV_refl] at q1 q2
  go_enter Try.func10, Try.ntmps10
  go_wp2_with fail
  refine (aw_sum _).mono ?_
  rintro _ w1 ⟨rfl, hb⟩
  have B1 : Hid (Below w.heap.size w w1) := Lib.hid (((Below.refl _ _).alloc (Nat.le_refl _) _).trans (hb.mono (by simp)))
  have K1 := Lib.hid (BK.new w1 9223372036854775807 0 0)
  clear hb
  go_wp2_with fail
  refine (aw_add _).mono ?_
  rintro _ w2 ⟨rfl, hb⟩
  have B2 : Hid (Below w.heap.size w w2) := Lib.hid ((B1.out.alloc B1.out.size _).trans (hb.mono (by have := B1.out.size; simp; omega)))
  have K2 := Lib.hid ((K1.out.on hb K1.out.lt).alloc (.cells #[.int .i64 0, .int .i64 0, .int .i64 0] 23))
  clear hb K1
  go_wp2_with fail
  refine (aw_sub _).mono ?_
  rintro _ w3 ⟨rfl, hb⟩
  have B3 : Hid (Below w.heap.size w (w3.alloc (.cells #[.int .i64 4, .int .i64 3, .int .i64 2] 23))) := Lib.hid (((B2.out.alloc B2.out.size _).trans (hb.mono (by have := B2.out.size; simp; omega))).alloc (by have := B2.out.size; have := hb.size; simp at this; omega) _)
  have K3 := Lib.hid ((K2.out.on hb K2.out.lt).alloc (.cells #[.int .i64 4, .int .i64 3, .int .i64 2] 23))
  have L3 := Lib.hid (BK.new w3 4 3 2)
  clear hb K2
  generalize w1.heap.size = n1 at *
  obtain ⟨d0, d1, d2⟩ := K3.out.c3
  obtain ⟨e0, e1, e2⟩ := L3.out.c3
  go_wp2_with fail
  refine (aw_may1 _).mono ?_
  rintro _ w4 ⟨rfl, hb⟩
  have B4 := Lib.hid (B3.out.trans (hb.mono B3.out.size))
  have K4 := Lib.hid (K3.out.on hb K3.out.lt)
  have L4 := Lib.hid (L3.out.on hb L3.out.lt)
  clear d0 d1 d2 e0 e1 e2 hb B3 K3 L3
  obtain ⟨d0, d1, d2⟩ := K4.out.c3
  obtain ⟨e0, e1, e2⟩ := L4.out.c3
  go_wp2_with fail
  refine (aw_may2 _).mono ?_
  rintro _ w5 ⟨rfl, hb⟩
  have B5 := Lib.hid (B4.out.trans (hb.mono B4.out.size))
  have K5 := Lib.hid (K4.out.on hb K4.out.lt)
  have L5 := Lib.hid (L4.out.on hb L4.out.lt)
  clear d0 d1 d2 e0 e1 e2 hb B4 K4 L4
  obtain ⟨d0, d1, d2⟩ := K5.out.c3
  obtain ⟨e0, e1, e2⟩ := L5.out.c3
  go_wp2_with fail
  refine (aw_fits1 _).mono ?_
  rintro _ w6 ⟨rfl, hb⟩
  have B6 := Lib.hid (B5.out.trans (hb.mono B5.out.size))
  have K6 := Lib.hid (K5.out.on hb K5.out.lt)
  have L6 := Lib.hid (L5.out.on hb L5.out.lt)
  clear d0 d1 d2 e0 e1 e2 hb B5 K5 L5
  obtain ⟨d0, d1, d2⟩ := K6.out.c3
  obtain ⟨e0, e1, e2⟩ := L6.out.c3
  go_wp2_with fail
  refine (aw_fits2 _).mono ?_
  rintro _ w7 ⟨rfl, hb⟩
  have B7 := Lib.hid (B6.out.trans (hb.mono B6.out.size))
  have K7 := Lib.hid (K6.out.on hb K6.out.lt)
  have L7 := Lib.hid (L6.out.on hb L6.out.lt)
  clear d0 d1 d2 e0 e1 e2 hb B6 K6 L6
  obtain ⟨d0, d1, d2⟩ := K7.out.c3
  obtain ⟨e0, e1, e2⟩ := L7.out.c3
  go_wp2_with fail
  refine (aw_share _).mono ?_
  rintro _ w8 ⟨rfl, hb⟩
  have B8 := Lib.hid (B7.out.trans (hb.mono B7.out.size))
  have K8 := Lib.hid (K7.out.on hb K7.out.lt)
  have L8 := Lib.hid (L7.out.on hb L7.out.lt)
  clear d0 d1 d2 e0 e1 e2 hb B7 K7 L7
  obtain ⟨d0, d1, d2⟩ := K8.out.c3
  obtain ⟨e0, e1, e2⟩ := L8.out.c3
  go_wp2_with fail
  go_ret
  exact ⟨rfl, B8.out⟩
end Go.Proofs.Ytcmjehjjlbhlmaa
