import Derived.Test.YtcmjehjjlbhlmaaLNone
namespace Go.Proofs.Ytcmjehjjlbhlmaa
open Go.RowKit
set_option linter.unusedVariables false
theorem fit_sub (a b c x y z : Int) : fitB 0 0 0 (x - a) (y - b) (z - c) = fitB a b c x y z := by
  rw [Bool.eq_iff_iff]; simp [fitB]
theorem sub_i64 {a x : Int} (ha : I64 a) (hx : I64 x) (h0 : 0 ≤ a) (h1 : 0 ≤ x) : I64 (x - a) := by unfold I64 at *; omega
set_option maxHeartbeats 2000000 in
theorem law_back (a b c x y z : Int) (w : World) (ba : I64 a) (bb : I64 b) (bc : I64 c) (bx : I64 x) (by' : I64 y) (bz : I64 z) :
    Calls Try.prog 6 #[.agg #[.int .i64 a, .int .i64 b, .int .i64 c], .agg #[.int .i64 x, .int .i64 y, .int .i64 z]] w (RetBelow (.bool true) w) := by
  have ta := Lib.hid fun W : World => add_ret a b c x y z W ba bb bc bx by' bz
  have ts : ∃ p q r e, outV (a + x) (b + y) (c + z) = .tuple #[.agg #[.int .i64 p, .int .i64 q, .int .i64 r], .int .i64 e] ∧ (e = 6 ∨ (e = 0 ∧ (∀ W : World, Calls Try.prog 13 #[.agg #[.int .i64 p, .int .i64 q, .int .i64 r], .agg #[.int .i64 x, .int .i64 y, .int .i64 z]] W (RetBelow (.tuple #[.agg #[.int .i64 a, .int .i64 b, .int .i64 c], .int .i64 0]) W)) ∧
      (∀ W : World, Calls Try.prog 13 #[.agg #[.int .i64 p, .int .i64 q, .int .i64 r], .agg #[.int .i64 a, .int .i64 b, .int .i64 c]] W (RetBelow (.tuple #[.agg #[.int .i64 x, .int .i64 y, .int .i64 z], .int .i64 0]) W)))) := by
    by_cases h : I64 (a + x) ∧ I64 (b + y) ∧ I64 (c + z)
    · refine ⟨_, _, _, _, outV_ok h, .inr ⟨rfl, fun W => ?_, fun W => ?_⟩⟩
      · have := sub_ret (a + x) (b + y) (c + z) x y z W h.1 h.2.1 h.2.2 bx by' bz
        rwa [show a + x - x = a by omega, show b + y - y = b by omega, show c + z - z = c by omega, outV_ok ⟨ba, bb, bc⟩] at this
      · have := sub_ret (a + x) (b + y) (c + z) a b c W h.1 h.2.1 h.2.2 ba bb bc
        rwa [show a + x - a = x by omega, show b + y - b = y by omega, show c + z - c = z by omega, outV_ok ⟨bx, by', bz⟩] at this
    · exact ⟨0, 0, 0, 6, by unfold outV; rw [if_neg h]; rfl, .inl rfl⟩
  obtain ⟨p, q, r, e, he, ts⟩ := ts
  rw [he] at ta
  have td : fitB 0 0 0 a b c = false ∨ (fitB 0 0 0 a b c = true ∧ (fitB 0 0 0 x y z = false ∨ (fitB 0 0 0 x y z = true ∧ ∃ F : Bool, ∃ s t u : Int, (∀ W : World, Calls Try.prog 13 #[.agg #[.int .i64 x, .int .i64 y, .int .i64 z], .agg #[.int .i64 a, .int .i64 b, .int .i64 c]] W (RetBelow (.tuple #[.agg #[.int .i64 s, .int .i64 t, .int .i64 u], .int .i64 0]) W)) ∧
      (∀ W : World, Calls Try.prog 15 #[.agg #[.int .i64 s, .int .i64 t, .int .i64 u]] W (RetBelow (.bool F) W)) ∧ (∀ W : World, Calls Try.prog 17 #[.agg #[.int .i64 a, .int .i64 b, .int .i64 c], .agg #[.int .i64 x, .int .i64 y, .int .i64 z]] W (RetBelow (.bool F) W))))) := by
    cases h1 : fitB 0 0 0 a b c with
    | false => exact .inl rfl
    | true =>
      cases h2 : fitB 0 0 0 x y z with
      | false => exact .inr ⟨rfl, .inl rfl⟩
      | true =>
        obtain ⟨m1, m2, m3⟩ := may_iff.1 h1
        obtain ⟨n1, n2, n3⟩ := may_iff.1 h2
        refine .inr ⟨rfl, .inr ⟨rfl, fitB a b c x y z, x - a, y - b, z - c, fun W => ?_, fun W => ?_, fun W => fits_any _ _ _ _ _ _ W⟩⟩
        · have := sub_ret x y z a b c W bx by' bz ba bb bc
          rwa [outV_ok ⟨sub_i64 ba bx m1 n1, sub_i64 bb by' m2 n2, sub_i64 bc bz m3 n3⟩] at this
        · have := may_any (x - a) (y - b) (z - c) W
          rwa [fit_sub] at this
  have q1 := fun W => eq23 a b c a b c W
  have q2 := fun W => eq23 x y z x y z W
  rw [eqV_refl] at q1 q2
  clear he ba bb bc bx by' bz
  have TS := Lib.hid ts
  have TD := Lib.hid td
  clear ts td
  have K := (BK.new w a b c).alloc (.cells #[.int .i64 x, .int .i64 y, .int .i64 z] 23)
  have L := BK.new (w.alloc (.cells #[.int .i64 a, .int .i64 b, .int .i64 c] 23)) x y z
  have B : Below w.heap.size w ((w.alloc (.cells #[.int .i64 a, .int .i64 b, .int .i64 c] 23)).alloc (.cells #[.int .i64 x, .int .i64 y, .int .i64 z] 23)) := ((Below.refl _ _).alloc (Nat.le_refl _) _).alloc (by simp) _
  simp only [World.size_alloc] at K L
  have K := Lib.hid K
  have L := Lib.hid L
  have B := Lib.hid B
  have tm := Lib.hid fun W : World => may_any a b c W
  have tn := Lib.hid fun W : World => may_any x y z W
  have aw := Lib.hid fun W : World => awake_any W
  go_enter Try.func6, Try.ntmps6
  go_wp2_with fail
  refine (aw.out _).mono ?_
  rintro _ v1 ⟨rfl, hb⟩
  have B := Lib.hid (below_step B.out hb)
  have K := Lib.hid (K.out.on hb K.out.lt)
  have L := Lib.hid (L.out.on hb L.out.lt)
  clear hb
  obtain ⟨K0, K1, K2⟩ := K.out.c3
  obtain ⟨L0, L1, L2⟩ := L.out.c3
  go_wp2_with fail
  refine (ta.out _).mono ?_
  rintro _ v2 ⟨rfl, hb⟩
  have B := Lib.hid (below_box (below_step B.out hb) (.cells #[.int .i64 p, .int .i64 q, .int .i64 r] 23))
  have K := Lib.hid ((K.out.on hb K.out.lt).alloc (.cells #[.int .i64 p, .int .i64 q, .int .i64 r] 23))
  have L := Lib.hid ((L.out.on hb L.out.lt).alloc (.cells #[.int .i64 p, .int .i64 q, .int .i64 r] 23))
  have P := Lib.hid (BK.new v2 (p) (q) (r))
  clear hb
  obtain ⟨K0, K1, K2⟩ := K.out.c3
  obtain ⟨L0, L1, L2⟩ := L.out.c3
  obtain ⟨P0, P1, P2⟩ := P.out.c3
  rcases TS.out with rfl | ⟨rfl, s1, s2⟩
  · clear TS
    go_wp2_with fail
    rcases TD.out with h1 | ⟨h1, h2 | ⟨h2, F, s, t, u, td, te, tf⟩⟩
    · clear TD
      refine (tm.out _).mono ?_
      rintro _ v6 ⟨rfl, hb⟩
      have B := Lib.hid (below_step B.out hb)
      have K := Lib.hid (K.out.on hb K.out.lt)
      have L := Lib.hid (L.out.on hb L.out.lt)
      clear hb
      obtain ⟨K0, K1, K2⟩ := K.out.c3
      obtain ⟨L0, L1, L2⟩ := L.out.c3
      go_wp2_with fail
      go_ret
      exact ⟨rfl, B.out⟩
    · clear TD
      refine (tm.out _).mono ?_
      rintro _ v6 ⟨rfl, hb⟩
      have B := Lib.hid (below_step B.out hb)
      have K := Lib.hid (K.out.on hb K.out.lt)
      have L := Lib.hid (L.out.on hb L.out.lt)
      clear hb
      obtain ⟨K0, K1, K2⟩ := K.out.c3
      obtain ⟨L0, L1, L2⟩ := L.out.c3
      go_wp2_with fail
      refine (tn.out _).mono ?_
      rintro _ v7 ⟨rfl, hb⟩
      have B := Lib.hid (below_step B.out hb)
      have K := Lib.hid (K.out.on hb K.out.lt)
      have L := Lib.hid (L.out.on hb L.out.lt)
      clear hb
      obtain ⟨K0, K1, K2⟩ := K.out.c3
      obtain ⟨L0, L1, L2⟩ := L.out.c3
      go_wp2_with fail
      go_ret
      exact ⟨rfl, B.out⟩
    · clear TD
      have TB := Lib.hid td
      have TE := Lib.hid te
      have TF := Lib.hid tf
      clear td te tf
      refine (tm.out _).mono ?_
      rintro _ v6 ⟨rfl, hb⟩
      have B := Lib.hid (below_step B.out hb)
      have K := Lib.hid (K.out.on hb K.out.lt)
      have L := Lib.hid (L.out.on hb L.out.lt)
      clear hb
      obtain ⟨K0, K1, K2⟩ := K.out.c3
      obtain ⟨L0, L1, L2⟩ := L.out.c3
      go_wp2_with fail
      refine (tn.out _).mono ?_
      rintro _ v7 ⟨rfl, hb⟩
      have B := Lib.hid (below_step B.out hb)
      have K := Lib.hid (K.out.on hb K.out.lt)
      have L := Lib.hid (L.out.on hb L.out.lt)
      clear hb
      obtain ⟨K0, K1, K2⟩ := K.out.c3
      obtain ⟨L0, L1, L2⟩ := L.out.c3
      go_wp2_with fail
      refine (TB.out _).mono ?_
      rintro _ v5 ⟨rfl, hb⟩
      have B := Lib.hid (below_box (below_step B.out hb) (.cells #[.int .i64 s, .int .i64 t, .int .i64 u] 23))
      have K := Lib.hid ((K.out.on hb K.out.lt).alloc (.cells #[.int .i64 s, .int .i64 t, .int .i64 u] 23))
      have L := Lib.hid ((L.out.on hb L.out.lt).alloc (.cells #[.int .i64 s, .int .i64 t, .int .i64 u] 23))
      have R := Lib.hid (BK.new v5 (s) (t) (u))
      clear hb
      obtain ⟨K0, K1, K2⟩ := K.out.c3
      obtain ⟨L0, L1, L2⟩ := L.out.c3
      obtain ⟨R0, R1, R2⟩ := R.out.c3
      go_wp2_with fail
      have H0 : Hid (v5.heap.size < (v5.alloc (.cells #[.int .i64 s, .int .i64 t, .int .i64 u] 23)).heap.size ∧ w.heap.size + 1 < (v5.alloc (.cells #[.int .i64 s, .int .i64 t, .int .i64 u] 23)).heap.size) := Lib.hid ⟨R.out.lt, L.out.lt⟩
      generalize v5.heap.size = n5 at *
      generalize v5.alloc (.cells #[.int .i64 s, .int .i64 t, .int .i64 u] 23) = W0 at *
      have e1 : C3 W0.drew w.heap.size a b c := K.out.c3
      have e2 : C3 W0.drew (w.heap.size + 1) x y z := L.out.c3
      have e3 : C3 W0.drew n5 s t u := R.out.c3
      have D0 : Hid (Below W0.heap.size W0 W0.drew) := Lib.hid (Below.refl _ W0).drew
      go_region_held3 (fun W => C3 W w.heap.size a b c ∧ C3 W (w.heap.size + 1) x y z ∧ C3 W n5 s t u) (first | exact ⟨e1, e2, e3⟩ | exact ⟨f1, f2, f3⟩ | exact ⟨g1, g2, g3⟩) (first
        | (go_at_call 15; (with_reducible refine (TE.out _).mono ?_); rintro e w8 ⟨rfl, hb1⟩; have B1 : Hid (Below W0.heap.size W0 w8) := Lib.hid (D0.out.trans hb1); clear hb1; have f1 := K.out.c3.keep B1.out K.out.lt; have f2 := L.out.c3.keep B1.out L.out.lt; have f3 := R.out.c3.keep B1.out R.out.lt)
        | (go_at_call 17; (with_reducible refine (TF.out _).mono ?_); rintro e w9 ⟨rfl, hb1⟩; have B2 : Hid (Below W0.heap.size W0 w9) := Lib.hid (B1.out.trans (hb1.mono B1.out.size)); clear hb1; have g1 := K.out.c3.keep B2.out K.out.lt; have g2 := L.out.c3.keep B2.out L.out.lt; have g3 := R.out.c3.keep B2.out R.out.lt))
      all_goals
        go_wp2_with fail
        go_ret
        exact ⟨by simp, below_step B.out B2.out⟩
  · clear TS
    have S1 := Lib.hid s1
    have S2 := Lib.hid s2
    clear s1 s2
    go_wp2_with fail
    refine (S1.out _).mono ?_
    rintro _ v3 ⟨rfl, hb⟩
    have B := Lib.hid (below_box (below_step B.out hb) (.cells #[.int .i64 a, .int .i64 b, .int .i64 c] 23))
    have K := Lib.hid ((K.out.on hb K.out.lt).alloc (.cells #[.int .i64 a, .int .i64 b, .int .i64 c] 23))
    have L := Lib.hid ((L.out.on hb L.out.lt).alloc (.cells #[.int .i64 a, .int .i64 b, .int .i64 c] 23))
    have P := Lib.hid ((P.out.on hb P.out.lt).alloc (.cells #[.int .i64 a, .int .i64 b, .int .i64 c] 23))
    have C := Lib.hid (BK.new v3 (a) (b) (c))
    clear hb
    obtain ⟨K0, K1, K2⟩ := K.out.c3
    obtain ⟨L0, L1, L2⟩ := L.out.c3
    obtain ⟨P0, P1, P2⟩ := P.out.c3
    obtain ⟨C0, C1, C2⟩ := C.out.c3
    go_wp2_with fail
    refine (S2.out _).mono ?_
    rintro _ v4 ⟨rfl, hb⟩
    have B := Lib.hid (below_box (below_step B.out hb) (.cells #[.int .i64 x, .int .i64 y, .int .i64 z] 23))
    have K := Lib.hid ((K.out.on hb K.out.lt).alloc (.cells #[.int .i64 x, .int .i64 y, .int .i64 z] 23))
    have L := Lib.hid ((L.out.on hb L.out.lt).alloc (.cells #[.int .i64 x, .int .i64 y, .int .i64 z] 23))
    have P := Lib.hid ((P.out.on hb P.out.lt).alloc (.cells #[.int .i64 x, .int .i64 y, .int .i64 z] 23))
    have C := Lib.hid ((C.out.on hb C.out.lt).alloc (.cells #[.int .i64 x, .int .i64 y, .int .i64 z] 23))
    have D := Lib.hid (BK.new v4 (x) (y) (z))
    clear hb
    obtain ⟨K0, K1, K2⟩ := K.out.c3
    obtain ⟨L0, L1, L2⟩ := L.out.c3
    obtain ⟨P0, P1, P2⟩ := P.out.c3
    obtain ⟨C0, C1, C2⟩ := C.out.c3
    obtain ⟨D0, D1, D2⟩ := D.out.c3
    go_wp2_with fail
    rcases TD.out with h1 | ⟨h1, h2 | ⟨h2, F, s, t, u, td, te, tf⟩⟩
    · clear TD
      refine (tm.out _).mono ?_
      rintro _ v6 ⟨rfl, hb⟩
      have B := Lib.hid (below_step B.out hb)
      have K := Lib.hid (K.out.on hb K.out.lt)
      have L := Lib.hid (L.out.on hb L.out.lt)
      clear hb
      obtain ⟨K0, K1, K2⟩ := K.out.c3
      obtain ⟨L0, L1, L2⟩ := L.out.c3
      go_wp2_with fail
      go_ret
      exact ⟨rfl, B.out⟩
    · clear TD
      refine (tm.out _).mono ?_
      rintro _ v6 ⟨rfl, hb⟩
      have B := Lib.hid (below_step B.out hb)
      have K := Lib.hid (K.out.on hb K.out.lt)
      have L := Lib.hid (L.out.on hb L.out.lt)
      clear hb
      obtain ⟨K0, K1, K2⟩ := K.out.c3
      obtain ⟨L0, L1, L2⟩ := L.out.c3
      go_wp2_with fail
      refine (tn.out _).mono ?_
      rintro _ v7 ⟨rfl, hb⟩
      have B := Lib.hid (below_step B.out hb)
      have K := Lib.hid (K.out.on hb K.out.lt)
      have L := Lib.hid (L.out.on hb L.out.lt)
      clear hb
      obtain ⟨K0, K1, K2⟩ := K.out.c3
      obtain ⟨L0, L1, L2⟩ := L.out.c3
      go_wp2_with fail
      go_ret
      exact ⟨rfl, B.out⟩
    · clear TD
      have TB := Lib.hid td
      have TE := Lib.hid te
      have TF := Lib.hid tf
      clear td te tf
      refine (tm.out _).mono ?_
      rintro _ v6 ⟨rfl, hb⟩
      have B := Lib.hid (below_step B.out hb)
      have K := Lib.hid (K.out.on hb K.out.lt)
      have L := Lib.hid (L.out.on hb L.out.lt)
      clear hb
      obtain ⟨K0, K1, K2⟩ := K.out.c3
      obtain ⟨L0, L1, L2⟩ := L.out.c3
      go_wp2_with fail
      refine (tn.out _).mono ?_
      rintro _ v7 ⟨rfl, hb⟩
      have B := Lib.hid (below_step B.out hb)
      have K := Lib.hid (K.out.on hb K.out.lt)
      have L := Lib.hid (L.out.on hb L.out.lt)
      clear hb
      obtain ⟨K0, K1, K2⟩ := K.out.c3
      obtain ⟨L0, L1, L2⟩ := L.out.c3
      go_wp2_with fail
      refine (TB.out _).mono ?_
      rintro _ v5 ⟨rfl, hb⟩
      have B := Lib.hid (below_box (below_step B.out hb) (.cells #[.int .i64 s, .int .i64 t, .int .i64 u] 23))
      have K := Lib.hid ((K.out.on hb K.out.lt).alloc (.cells #[.int .i64 s, .int .i64 t, .int .i64 u] 23))
      have L := Lib.hid ((L.out.on hb L.out.lt).alloc (.cells #[.int .i64 s, .int .i64 t, .int .i64 u] 23))
      have R := Lib.hid (BK.new v5 (s) (t) (u))
      clear hb
      obtain ⟨K0, K1, K2⟩ := K.out.c3
      obtain ⟨L0, L1, L2⟩ := L.out.c3
      obtain ⟨R0, R1, R2⟩ := R.out.c3
      go_wp2_with fail
      have H0 : Hid (v5.heap.size < (v5.alloc (.cells #[.int .i64 s, .int .i64 t, .int .i64 u] 23)).heap.size ∧ w.heap.size + 1 < (v5.alloc (.cells #[.int .i64 s, .int .i64 t, .int .i64 u] 23)).heap.size) := Lib.hid ⟨R.out.lt, L.out.lt⟩
      generalize v5.heap.size = n5 at *
      generalize v5.alloc (.cells #[.int .i64 s, .int .i64 t, .int .i64 u] 23) = W0 at *
      have e1 : C3 W0.drew w.heap.size a b c := K.out.c3
      have e2 : C3 W0.drew (w.heap.size + 1) x y z := L.out.c3
      have e3 : C3 W0.drew n5 s t u := R.out.c3
      have D0 : Hid (Below W0.heap.size W0 W0.drew) := Lib.hid (Below.refl _ W0).drew
      go_region_held3 (fun W => C3 W w.heap.size a b c ∧ C3 W (w.heap.size + 1) x y z ∧ C3 W n5 s t u) (first | exact ⟨e1, e2, e3⟩ | exact ⟨f1, f2, f3⟩ | exact ⟨g1, g2, g3⟩) (first
        | (go_at_call 15; (with_reducible refine (TE.out _).mono ?_); rintro e w8 ⟨rfl, hb1⟩; have B1 : Hid (Below W0.heap.size W0 w8) := Lib.hid (D0.out.trans hb1); clear hb1; have f1 := K.out.c3.keep B1.out K.out.lt; have f2 := L.out.c3.keep B1.out L.out.lt; have f3 := R.out.c3.keep B1.out R.out.lt)
        | (go_at_call 17; (with_reducible refine (TF.out _).mono ?_); rintro e w9 ⟨rfl, hb1⟩; have B2 : Hid (Below W0.heap.size W0 w9) := Lib.hid (B1.out.trans (hb1.mono B1.out.size)); clear hb1; have g1 := K.out.c3.keep B2.out K.out.lt; have g2 := L.out.c3.keep B2.out L.out.lt; have g3 := R.out.c3.keep B2.out R.out.lt))
      all_goals
        go_wp2_with fail
        go_ret
        exact ⟨by simp, below_step B.out B2.out⟩
end Go.Proofs.Ytcmjehjjlbhlmaa
