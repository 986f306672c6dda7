import Derived.Test.YtcmjehjjlbhlmaaRh
namespace Go.Proofs.Ytcmjehjjlbhlmaa
open Go.RowKit
set_option linter.unusedVariables false
set_option maxHeartbeats 1000000 in
theorem refShare_any (a b c x y z : Int) (w : World) (ba : I64 a) (bb : I64 b) (bc : I64 c) (bx : I64 x) (by' : I64 y) (bz : I64 z) :
    Calls Try.prog 20 #[.agg #[.int .i64 a, .int .i64 b, .int .i64 c], .agg #[.int .i64 x, .int .i64 y, .int .i64 z]] w (RetBelow (.int .i64 (shA a b c x y z)) w) := by
  have c1 := Lib.hid fun W : World => refMay_any a b c W
  have c2 := Lib.hid fun W : World => refMay_any x y z W
  have K1 := (BK.new w a b c).alloc (.cells #[.int .i64 x, .int .i64 y, .int .i64 z] 23)
  have K2 := BK.new (w.alloc (.cells #[.int .i64 a, .int .i64 b, .int .i64 c] 23)) x y z
  have B0 : Below w.heap.size w ((w.alloc (.cells #[.int .i64 a, .int .i64 b, .int .i64 c] 23)).alloc (.cells #[.int .i64 x, .int .i64 y, .int .i64 z] 23)) := below_box (below_box (Below.refl _ _) _) _
  simp only [World.size_alloc] at K1 K2
  have K1 := Lib.hid K1
  have K2 := Lib.hid K2
  have B0 := Lib.hid B0
  cases hm1 : fitB 0 0 0 a b c with
  | false =>
    rw [hm1] at c1
    rw [show shA a b c x y z = 0 from by unfold shA; rw [hm1]; rfl]
    go_enter Try.func20, Try.ntmps20
    go_wp2_with fail
    refine (c1.out _).mono ?_
    rintro _ w1 ⟨rfl, hb⟩
    have B1 := Lib.hid (B0.out.trans (hb.mono B0.out.size))
    clear hb
    go_wp2_with fail
    go_ret
    exact ⟨rfl, B1.out⟩
  | true =>
    cases hm2 : fitB 0 0 0 x y z with
    | false =>
      rw [hm1] at c1
      rw [hm2] at c2
      rw [show shA a b c x y z = 0 from by unfold shA; rw [hm1, hm2]; rfl]
      go_enter Try.func20, Try.ntmps20
      go_wp2_with fail
      refine (c1.out _).mono ?_
      rintro _ w1 ⟨rfl, hb⟩
      have B1 := Lib.hid (B0.out.trans (hb.mono B0.out.size))
      obtain ⟨d0, d1, d2⟩ := (K2.out.on hb (by simp)).c3
      clear hb
      go_wp2_with fail
      refine (c2.out _).mono ?_
      rintro _ w2 ⟨rfl, hb⟩
      have B2 := Lib.hid (B1.out.trans (hb.mono B1.out.size))
      clear hb
      go_wp2_with fail
      go_ret
      exact ⟨rfl, B2.out⟩
    | true =>
      rw [show shA a b c x y z = shV a b c x y z from by unfold shA; rw [hm1, hm2]; rfl]
      exact refShare_yes a b c x y z w ba bb bc bx by' bz hm1 hm2
set_option maxHeartbeats 4000000 in
theorem law_does (a b c x y z : Int) (w : World) (ba : I64 a) (bb : I64 b) (bc : I64 c) (bx : I64 x) (by' : I64 y) (bz : I64 z) :
    Calls Try.prog 3 #[.agg #[.int .i64 a, .int .i64 b, .int .i64 c], .agg #[.int .i64 x, .int .i64 y, .int .i64 z]] w (RetBelow (.bool true) w) := by
  have t1 := Lib.hid fun W : World => add_ret a b c x y z W ba bb bc bx by' bz
  have t2 := Lib.hid fun W : World => refAdd_ret a b c x y z W ba bb bc bx by' bz
  have t3 := Lib.hid fun W : World => sub_ret a b c x y z W ba bb bc bx by' bz
  have t4 := Lib.hid fun W : World => refSub_any a b c x y z W ba bb bc bx by' bz
  have u1 := Lib.hid fun W : World => may_any a b c W
  have u2 := Lib.hid fun W : World => refMay_any a b c W
  have u3 := Lib.hid fun W : World => fits_any a b c x y z W
  have u4 := Lib.hid fun W : World => refFits_any a b c x y z W
  have u5 := Lib.hid fun W : World => share_any a b c x y z W ba bb bc bx by' bz
  have u6 := Lib.hid fun W : World => refShare_any a b c x y z W ba bb bc bx by' bz
  obtain ⟨p, q, r, e, he⟩ := outV_form (a + x) (b + y) (c + z)
  rw [he] at t1 t2
  obtain ⟨s, t, u, f, hf⟩ := outV_form (a - x) (b - y) (c - z)
  rw [hf] at t3 t4
  have q1 := fun W => eq23 p q r p q r W
  have q2 := fun W => eq23 s t u s t u W
  rw [eqV_refl] at q1 q2
  generalize fitB 0 0 0 a b c = F1 at *
  generalize fitB a b c x y z = F2 at *
  generalize shA a b c x y z = S1 at *
  have hF1 : (F1 == F1) = true := by simp
  have hF2 : (F2 == F2) = true := by simp
  have hS1 : (S1 == S1) = true := by simp
  have he1 : (e == e) = true := by simp
  have hf1 : (f == f) = true := by simp
  clear he hf ba bb bc bx by' bz
  have K := (BK.new w a b c).alloc (.cells #[.int .i64 x, .int .i64 y, .int .i64 z] 23)
  have L := BK.new (w.alloc (.cells #[.int .i64 a, .int .i64 b, .int .i64 c] 23)) x y z
  have B : Below w.heap.size w ((w.alloc (.cells #[.int .i64 a, .int .i64 b, .int .i64 c] 23)).alloc (.cells #[.int .i64 x, .int .i64 y, .int .i64 z] 23)) := below_box (below_box (Below.refl _ _) _) _
  simp only [World.size_alloc] at K L
  have K := Lib.hid K
  have L := Lib.hid L
  have B := Lib.hid B
  have aw := Lib.hid fun W : World => awake_any W
  go_enter Try.func3, Try.ntmps3
  go_wp2_with fail
  refine (aw.out _).mono ?_
  rintro _ v0 ⟨rfl, hb⟩
  have B := Lib.hid (below_step B.out hb)
  have K := Lib.hid (K.out.on hb K.out.lt)
  have L := Lib.hid (L.out.on hb L.out.lt)
  clear hb
  obtain ⟨K0, K1, K2⟩ := K.out.c3
  obtain ⟨L0, L1, L2⟩ := L.out.c3
  go_wp2_with fail
  refine (t1.out _).mono ?_
  rintro _ v1 ⟨rfl, hb⟩
  have B := Lib.hid (below_box (below_step B.out hb) (.cells #[.int .i64 p, .int .i64 q, .int .i64 r] 23))
  have K := Lib.hid ((K.out.on hb K.out.lt).alloc (.cells #[.int .i64 p, .int .i64 q, .int .i64 r] 23))
  have L := Lib.hid ((L.out.on hb L.out.lt).alloc (.cells #[.int .i64 p, .int .i64 q, .int .i64 r] 23))
  have M := Lib.hid (BK.new v1 (p) (q) (r))
  clear hb
  obtain ⟨K0, K1, K2⟩ := K.out.c3
  obtain ⟨L0, L1, L2⟩ := L.out.c3
  obtain ⟨M0, M1, M2⟩ := M.out.c3
  go_wp2_with fail
  refine (t2.out _).mono ?_
  rintro _ v2 ⟨rfl, hb⟩
  have B := Lib.hid (below_box (below_step B.out hb) (.cells #[.int .i64 p, .int .i64 q, .int .i64 r] 23))
  have K := Lib.hid ((K.out.on hb K.out.lt).alloc (.cells #[.int .i64 p, .int .i64 q, .int .i64 r] 23))
  have L := Lib.hid ((L.out.on hb L.out.lt).alloc (.cells #[.int .i64 p, .int .i64 q, .int .i64 r] 23))
  have M := Lib.hid ((M.out.on hb M.out.lt).alloc (.cells #[.int .i64 p, .int .i64 q, .int .i64 r] 23))
  have N := Lib.hid (BK.new v2 (p) (q) (r))
  clear hb
  obtain ⟨K0, K1, K2⟩ := K.out.c3
  obtain ⟨L0, L1, L2⟩ := L.out.c3
  obtain ⟨M0, M1, M2⟩ := M.out.c3
  obtain ⟨N0, N1, N2⟩ := N.out.c3
  go_wp2_with fail
  refine (t3.out _).mono ?_
  rintro _ v3 ⟨rfl, hb⟩
  have B := Lib.hid (below_box (below_step B.out hb) (.cells #[.int .i64 s, .int .i64 t, .int .i64 u] 23))
  have K := Lib.hid ((K.out.on hb K.out.lt).alloc (.cells #[.int .i64 s, .int .i64 t, .int .i64 u] 23))
  have L := Lib.hid ((L.out.on hb L.out.lt).alloc (.cells #[.int .i64 s, .int .i64 t, .int .i64 u] 23))
  have M := Lib.hid ((M.out.on hb M.out.lt).alloc (.cells #[.int .i64 s, .int .i64 t, .int .i64 u] 23))
  have N := Lib.hid ((N.out.on hb N.out.lt).alloc (.cells #[.int .i64 s, .int .i64 t, .int .i64 u] 23))
  have O := Lib.hid (BK.new v3 (s) (t) (u))
  clear hb
  obtain ⟨K0, K1, K2⟩ := K.out.c3
  obtain ⟨L0, L1, L2⟩ := L.out.c3
  obtain ⟨M0, M1, M2⟩ := M.out.c3
  obtain ⟨N0, N1, N2⟩ := N.out.c3
  obtain ⟨O0, O1, O2⟩ := O.out.c3
  go_wp2_with fail
  refine (t4.out _).mono ?_
  rintro _ v4 ⟨rfl, hb⟩
  have B := Lib.hid (below_box (below_step B.out hb) (.cells #[.int .i64 s, .int .i64 t, .int .i64 u] 23))
  have K := Lib.hid ((K.out.on hb K.out.lt).alloc (.cells #[.int .i64 s, .int .i64 t, .int .i64 u] 23))
  have L := Lib.hid ((L.out.on hb L.out.lt).alloc (.cells #[.int .i64 s, .int .i64 t, .int .i64 u] 23))
  have M := Lib.hid ((M.out.on hb M.out.lt).alloc (.cells #[.int .i64 s, .int .i64 t, .int .i64 u] 23))
  have N := Lib.hid ((N.out.on hb N.out.lt).alloc (.cells #[.int .i64 s, .int .i64 t, .int .i64 u] 23))
  have O := Lib.hid ((O.out.on hb O.out.lt).alloc (.cells #[.int .i64 s, .int .i64 t, .int .i64 u] 23))
  have R := Lib.hid (BK.new v4 (s) (t) (u))
  clear hb
  obtain ⟨K0, K1, K2⟩ := K.out.c3
  obtain ⟨L0, L1, L2⟩ := L.out.c3
  obtain ⟨M0, M1, M2⟩ := M.out.c3
  obtain ⟨N0, N1, N2⟩ := N.out.c3
  obtain ⟨O0, O1, O2⟩ := O.out.c3
  obtain ⟨R0, R1, R2⟩ := R.out.c3
  go_wp2_with fail
  clear K0 K1 K2 L0 L1 L2 M0 M1 M2 N0 N1 N2 O0 O1 O2 R0 R1 R2
  generalize v1.heap.size = n1 at *
  generalize v2.heap.size = n2 at *
  generalize v3.heap.size = n3 at *
  have hR := R.out
  have hRl := R.out.lt
  generalize hn4 : v4.heap.size = n4 at *
  clear hn4
  generalize v4.alloc (.cells #[.int .i64 s, .int .i64 t, .int .i64 u] 23) = W0 at *
  have f0 : (fun W' : World => C3 W' w.heap.size a b c ∧ C3 W' (w.heap.size + 1) x y z ∧ C3 W' n1 p q r ∧ C3 W' n2 p q r ∧ C3 W' n3 s t u ∧ C3 W' n4 s t u) W0.drew := ⟨K.out.c3, L.out.c3, M.out.c3, N.out.c3, O.out.c3, R.out.c3⟩
  have D0 : Hid (Below W0.heap.size W0 W0.drew) := Lib.hid (Below.refl _ W0).drew
  have SK := Lib.hid fun (W' : World) (h : Below W0.heap.size W0 W') => (⟨K.out.c3.keep h K.out.lt, L.out.c3.keep h L.out.lt, M.out.c3.keep h M.out.lt, N.out.c3.keep h N.out.lt, O.out.c3.keep h O.out.lt, R.out.c3.keep h R.out.lt⟩ : C3 W' w.heap.size a b c ∧ C3 W' (w.heap.size + 1) x y z ∧ C3 W' n1 p q r ∧ C3 W' n2 p q r ∧ C3 W' n3 s t u ∧ C3 W' n4 s t u)
  go_region_held3 (fun W' => C3 W' w.heap.size a b c ∧ C3 W' (w.heap.size + 1) x y z ∧ C3 W' n1 p q r ∧ C3 W' n2 p q r ∧ C3 W' n3 s t u ∧ C3 W' n4 s t u) (first | exact f0 | exact f5 | exact f6 | exact f7 | exact f8 | exact f9 | exact f10) (first
    | (go_at_call 15; (with_reducible refine (u1.out _).mono ?_); rintro e w5 ⟨rfl, hb5⟩; have b5 : Hid (Below W0.heap.size W0 w5) := Lib.hid (D0.out.trans (hb5.mono D0.out.size)); clear hb5; have f5 := SK.out _ b5.out)
    | (go_at_call 16; (with_reducible refine (u2.out _).mono ?_); rintro e w6 ⟨rfl, hb6⟩; have b6 : Hid (Below W0.heap.size W0 w6) := Lib.hid (b5.out.trans (hb6.mono b5.out.size)); clear hb6; have f6 := SK.out _ b6.out)
    | (go_at_call 17; (with_reducible refine (u3.out _).mono ?_); rintro e w7 ⟨rfl, hb7⟩; have b7 : Hid (Below W0.heap.size W0 w7) := Lib.hid (b6.out.trans (hb7.mono b6.out.size)); clear hb7; have f7 := SK.out _ b7.out)
    | (go_at_call 18; (with_reducible refine (u4.out _).mono ?_); rintro e w8 ⟨rfl, hb8⟩; have b8 : Hid (Below W0.heap.size W0 w8) := Lib.hid (b7.out.trans (hb8.mono b7.out.size)); clear hb8; have f8 := SK.out _ b8.out)
    | (go_at_call 19; (with_reducible refine (u5.out _).mono ?_); rintro e w9 ⟨rfl, hb9⟩; have b9 : Hid (Below W0.heap.size W0 w9) := Lib.hid (b8.out.trans (hb9.mono b8.out.size)); clear hb9; have f9 := SK.out _ b9.out)
    | (go_at_call 20; (with_reducible refine (u6.out _).mono ?_); rintro e w10 ⟨rfl, hb10⟩; have b10 : Hid (Below W0.heap.size W0 w10) := Lib.hid (b9.out.trans (hb10.mono b9.out.size)); clear hb10; have f10 := SK.out _ b10.out))
  all_goals
    go_wp2_with fail
    go_ret
    exact ⟨by first | rfl | simp, below_step B.out b10.out⟩
end Go.Proofs.Ytcmjehjjlbhlmaa
