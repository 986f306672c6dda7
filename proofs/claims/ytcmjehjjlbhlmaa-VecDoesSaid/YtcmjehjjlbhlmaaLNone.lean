import Derived.Test.YtcmjehjjlbhlmaaAwake
namespace Go.Proofs.Ytcmjehjjlbhlmaa
open Go.RowKit
set_option linter.unusedVariables false
theorem outV_ok {X Y Z : Int} (h : I64 X ∧ I64 Y ∧ I64 Z) : outV X Y Z = .tuple #[.agg #[.int .i64 X, .int .i64 Y, .int .i64 Z], .int .i64 0] := by unfold outV; rw [if_pos h]; rfl
theorem below_step {w w1 w2 : World} (hB : Below w.heap.size w w1) (hb : Below w1.heap.size w1 w2) : Below w.heap.size w w2 := hB.trans (hb.mono hB.size)
theorem below_box {w w1 : World} (hB : Below w.heap.size w w1) (o : Obj) : Below w.heap.size w (w1.alloc o) := hB.alloc hB.size o
set_option maxHeartbeats 1000000 in
theorem law_none (a b c x y z : Int) (w : World) (ba : I64 a) (bb : I64 b) (bc : I64 c) (bx : I64 x) (by' : I64 y) (bz : I64 z) :
    Calls Try.prog 9 #[.agg #[.int .i64 a, .int .i64 b, .int .i64 c], .agg #[.int .i64 x, .int .i64 y, .int .i64 z]] w (RetBelow (.bool true) w) := by
  have i0 : I64 0 := ⟨by omega, by omega⟩
  have t0 := Lib.hid fun W : World => sum0 W
  have t1 := Lib.hid fun W : World => sum1 a b c W ba bb bc
  have t2 := Lib.hid fun W : World => sum2 a b c x y z W ba bb bc bx by' bz
  have t3 := Lib.hid fun W : World => add_ret a b c x y z W ba bb bc bx by' bz
  have t4 := Lib.hid fun W : World => add_ret a b c 0 0 0 W ba bb bc i0 i0 i0
  have t5 := Lib.hid fun W : World => sub_ret a b c a b c W ba bb bc ba bb bc
  obtain ⟨p, q, r, e, he⟩ := outV_form (a + x) (b + y) (c + z)
  rw [he] at t2 t3
  rw [outV_ok ⟨i0, i0, i0⟩] at t0
  rw [outV_ok ⟨ba, bb, bc⟩] at t1
  rw [Int.add_zero, Int.add_zero, Int.add_zero, outV_ok ⟨ba, bb, bc⟩] at t4
  rw [Int.sub_self, Int.sub_self, Int.sub_self, outV_ok ⟨i0, i0, i0⟩] at t5
  have z0 := build23_0
  have q0 := fun W => eq23 0 0 0 0 0 0 W
  have q1 := fun W => eq23 a b c a b c W
  have q2 := fun W => eq23 p q r p q r W
  rw [eqV_refl] at q0 q1 q2
  clear he ba bb bc bx by' bz i0
  have K := (BK.new w a b c).alloc (.cells #[.int .i64 x, .int .i64 y, .int .i64 z] 23)
  have L := BK.new (w.alloc (.cells #[.int .i64 a, .int .i64 b, .int .i64 c] 23)) x y z
  have B : Below w.heap.size w ((w.alloc (.cells #[.int .i64 a, .int .i64 b, .int .i64 c] 23)).alloc (.cells #[.int .i64 x, .int .i64 y, .int .i64 z] 23)) := ((Below.refl _ _).alloc (Nat.le_refl _) _).alloc (by simp) _
  simp only [World.size_alloc] at K L
  have K := Lib.hid K
  have L := Lib.hid L
  have B := Lib.hid B
  go_enter Try.func9, Try.ntmps9
  go_wp2_with fail
  refine (awake_any _).mono ?_
  rintro _ w1 ⟨rfl, hb⟩
  have B := Lib.hid (B.out.trans (hb.mono B.out.size))
  have K := Lib.hid (K.out.on hb K.out.lt)
  have L := Lib.hid (L.out.on hb L.out.lt)
  obtain ⟨d0, d1, d2⟩ := K.out.c3
  obtain ⟨e0, e1, e2⟩ := L.out.c3
  clear hb
  go_wp2_with fail
  refine (t0.out _).mono ?_
  rintro _ v0 ⟨rfl, hb⟩
  have B := Lib.hid (below_box (below_step B.out hb) (.cells #[.int .i64 0, .int .i64 0, .int .i64 0] 23))
  have K := Lib.hid ((K.out.on hb K.out.lt).alloc (.cells #[.int .i64 0, .int .i64 0, .int .i64 0] 23))
  have L := Lib.hid ((L.out.on hb L.out.lt).alloc (.cells #[.int .i64 0, .int .i64 0, .int .i64 0] 23))
  have N := Lib.hid (BK.new v0 (0) (0) (0))
  clear hb
  obtain ⟨K0, K1, K2⟩ := K.out.c3
  obtain ⟨L0, L1, L2⟩ := L.out.c3
  obtain ⟨N0, N1, N2⟩ := N.out.c3
  go_wp2_with fail
  have C := t1.out (v0.alloc (.cells #[.int .i64 0, .int .i64 0, .int .i64 0] 23))
  simp only [World.size_alloc] at C
  refine C.mono ?_
  rintro _ v1 ⟨rfl, hb⟩
  have B := Lib.hid (below_box (below_step (below_box B.out (.cells #[.int .i64 a, .int .i64 b, .int .i64 c] 23)) hb) (.cells #[.int .i64 a, .int .i64 b, .int .i64 c] 23))
  have K := Lib.hid (((K.out.alloc (.cells #[.int .i64 a, .int .i64 b, .int .i64 c] 23)).on hb (K.out.alloc (.cells #[.int .i64 a, .int .i64 b, .int .i64 c] 23)).lt).alloc (.cells #[.int .i64 a, .int .i64 b, .int .i64 c] 23))
  have L := Lib.hid (((L.out.alloc (.cells #[.int .i64 a, .int .i64 b, .int .i64 c] 23)).on hb (L.out.alloc (.cells #[.int .i64 a, .int .i64 b, .int .i64 c] 23)).lt).alloc (.cells #[.int .i64 a, .int .i64 b, .int .i64 c] 23))
  have N := Lib.hid (((N.out.alloc (.cells #[.int .i64 a, .int .i64 b, .int .i64 c] 23)).on hb (N.out.alloc (.cells #[.int .i64 a, .int .i64 b, .int .i64 c] 23)).lt).alloc (.cells #[.int .i64 a, .int .i64 b, .int .i64 c] 23))
  have O := Lib.hid (BK.new v1 (a) (b) (c))
  clear hb C
  obtain ⟨K0, K1, K2⟩ := K.out.c3
  obtain ⟨L0, L1, L2⟩ := L.out.c3
  obtain ⟨N0, N1, N2⟩ := N.out.c3
  obtain ⟨O0, O1, O2⟩ := O.out.c3
  go_wp2_with fail
  have C := t2.out (v1.alloc (.cells #[.int .i64 a, .int .i64 b, .int .i64 c] 23))
  simp only [World.size_alloc] at C
  refine C.mono ?_
  rintro _ v2 ⟨rfl, hb⟩
  have B := Lib.hid (below_box (below_step (below_box B.out (.cells #[.int .i64 a, .int .i64 b, .int .i64 c, .int .i64 x, .int .i64 y, .int .i64 z] 23)) hb) (.cells #[.int .i64 p, .int .i64 q, .int .i64 r] 23))
  have K := Lib.hid (((K.out.alloc (.cells #[.int .i64 a, .int .i64 b, .int .i64 c, .int .i64 x, .int .i64 y, .int .i64 z] 23)).on hb (K.out.alloc (.cells #[.int .i64 a, .int .i64 b, .int .i64 c, .int .i64 x, .int .i64 y, .int .i64 z] 23)).lt).alloc (.cells #[.int .i64 p, .int .i64 q, .int .i64 r] 23))
  have L := Lib.hid (((L.out.alloc (.cells #[.int .i64 a, .int .i64 b, .int .i64 c, .int .i64 x, .int .i64 y, .int .i64 z] 23)).on hb (L.out.alloc (.cells #[.int .i64 a, .int .i64 b, .int .i64 c, .int .i64 x, .int .i64 y, .int .i64 z] 23)).lt).alloc (.cells #[.int .i64 p, .int .i64 q, .int .i64 r] 23))
  have N := Lib.hid (((N.out.alloc (.cells #[.int .i64 a, .int .i64 b, .int .i64 c, .int .i64 x, .int .i64 y, .int .i64 z] 23)).on hb (N.out.alloc (.cells #[.int .i64 a, .int .i64 b, .int .i64 c, .int .i64 x, .int .i64 y, .int .i64 z] 23)).lt).alloc (.cells #[.int .i64 p, .int .i64 q, .int .i64 r] 23))
  have O := Lib.hid (((O.out.alloc (.cells #[.int .i64 a, .int .i64 b, .int .i64 c, .int .i64 x, .int .i64 y, .int .i64 z] 23)).on hb (O.out.alloc (.cells #[.int .i64 a, .int .i64 b, .int .i64 c, .int .i64 x, .int .i64 y, .int .i64 z] 23)).lt).alloc (.cells #[.int .i64 p, .int .i64 q, .int .i64 r] 23))
  have R := Lib.hid (BK.new v2 (p) (q) (r))
  clear hb C
  obtain ⟨K0, K1, K2⟩ := K.out.c3
  obtain ⟨L0, L1, L2⟩ := L.out.c3
  obtain ⟨N0, N1, N2⟩ := N.out.c3
  obtain ⟨O0, O1, O2⟩ := O.out.c3
  obtain ⟨R0, R1, R2⟩ := R.out.c3
  go_wp2_with fail
  refine (t3.out _).mono ?_
  rintro _ v3 ⟨rfl, hb⟩
  have B := Lib.hid (below_box (below_step B.out hb) (.cells #[.int .i64 p, .int .i64 q, .int .i64 r] 23))
  have K := Lib.hid ((K.out.on hb K.out.lt).alloc (.cells #[.int .i64 p, .int .i64 q, .int .i64 r] 23))
  have L := Lib.hid ((L.out.on hb L.out.lt).alloc (.cells #[.int .i64 p, .int .i64 q, .int .i64 r] 23))
  have N := Lib.hid ((N.out.on hb N.out.lt).alloc (.cells #[.int .i64 p, .int .i64 q, .int .i64 r] 23))
  have O := Lib.hid ((O.out.on hb O.out.lt).alloc (.cells #[.int .i64 p, .int .i64 q, .int .i64 r] 23))
  have R := Lib.hid ((R.out.on hb R.out.lt).alloc (.cells #[.int .i64 p, .int .i64 q, .int .i64 r] 23))
  have T := Lib.hid (BK.new v3 (p) (q) (r))
  clear hb
  obtain ⟨K0, K1, K2⟩ := K.out.c3
  obtain ⟨L0, L1, L2⟩ := L.out.c3
  obtain ⟨N0, N1, N2⟩ := N.out.c3
  obtain ⟨O0, O1, O2⟩ := O.out.c3
  obtain ⟨R0, R1, R2⟩ := R.out.c3
  obtain ⟨T0, T1, T2⟩ := T.out.c3
  go_wp2_with fail
  refine (t4.out _).mono ?_
  rintro _ v4 ⟨rfl, hb⟩
  have B := Lib.hid (below_box (below_step B.out hb) (.cells #[.int .i64 a, .int .i64 b, .int .i64 c] 23))
  have K := Lib.hid ((K.out.on hb K.out.lt).alloc (.cells #[.int .i64 a, .int .i64 b, .int .i64 c] 23))
  have L := Lib.hid ((L.out.on hb L.out.lt).alloc (.cells #[.int .i64 a, .int .i64 b, .int .i64 c] 23))
  have N := Lib.hid ((N.out.on hb N.out.lt).alloc (.cells #[.int .i64 a, .int .i64 b, .int .i64 c] 23))
  have O := Lib.hid ((O.out.on hb O.out.lt).alloc (.cells #[.int .i64 a, .int .i64 b, .int .i64 c] 23))
  have R := Lib.hid ((R.out.on hb R.out.lt).alloc (.cells #[.int .i64 a, .int .i64 b, .int .i64 c] 23))
  have T := Lib.hid ((T.out.on hb T.out.lt).alloc (.cells #[.int .i64 a, .int .i64 b, .int .i64 c] 23))
  have U := Lib.hid (BK.new v4 (a) (b) (c))
  clear hb
  obtain ⟨K0, K1, K2⟩ := K.out.c3
  obtain ⟨L0, L1, L2⟩ := L.out.c3
  obtain ⟨N0, N1, N2⟩ := N.out.c3
  obtain ⟨O0, O1, O2⟩ := O.out.c3
  obtain ⟨R0, R1, R2⟩ := R.out.c3
  obtain ⟨T0, T1, T2⟩ := T.out.c3
  obtain ⟨U0, U1, U2⟩ := U.out.c3
  go_wp2_with fail
  refine (t5.out _).mono ?_
  rintro _ v5 ⟨rfl, hb⟩
  have B := Lib.hid (below_box (below_step B.out hb) (.cells #[.int .i64 0, .int .i64 0, .int .i64 0] 23))
  have K := Lib.hid ((K.out.on hb K.out.lt).alloc (.cells #[.int .i64 0, .int .i64 0, .int .i64 0] 23))
  have L := Lib.hid ((L.out.on hb L.out.lt).alloc (.cells #[.int .i64 0, .int .i64 0, .int .i64 0] 23))
  have N := Lib.hid ((N.out.on hb N.out.lt).alloc (.cells #[.int .i64 0, .int .i64 0, .int .i64 0] 23))
  have O := Lib.hid ((O.out.on hb O.out.lt).alloc (.cells #[.int .i64 0, .int .i64 0, .int .i64 0] 23))
  have R := Lib.hid ((R.out.on hb R.out.lt).alloc (.cells #[.int .i64 0, .int .i64 0, .int .i64 0] 23))
  have T := Lib.hid ((T.out.on hb T.out.lt).alloc (.cells #[.int .i64 0, .int .i64 0, .int .i64 0] 23))
  have U := Lib.hid ((U.out.on hb U.out.lt).alloc (.cells #[.int .i64 0, .int .i64 0, .int .i64 0] 23))
  have V := Lib.hid (BK.new v5 (0) (0) (0))
  clear hb
  obtain ⟨K0, K1, K2⟩ := K.out.c3
  obtain ⟨L0, L1, L2⟩ := L.out.c3
  obtain ⟨N0, N1, N2⟩ := N.out.c3
  obtain ⟨O0, O1, O2⟩ := O.out.c3
  obtain ⟨R0, R1, R2⟩ := R.out.c3
  obtain ⟨T0, T1, T2⟩ := T.out.c3
  obtain ⟨U0, U1, U2⟩ := U.out.c3
  obtain ⟨V0, V1, V2⟩ := V.out.c3
  go_wp2_with fail
  go_ret
  exact ⟨rfl, B.out⟩
end Go.Proofs.Ytcmjehjjlbhlmaa
