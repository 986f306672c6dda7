import Derived.Test.YtcmjehjjlbhlmaaAwake
namespace Go.Proofs.Ytcmjehjjlbhlmaa
open Go.RowKit
set_option linter.unusedVariables false
theorem fit_refl (a b c : Int) : fitB a b c a b c = true := by simp [fitB]
theorem fit_antisymm {a b c x y z : Int} (h1 : fitB a b c x y z = true) (h2 : fitB x y z a b c = true) : eqV a b c x y z = true := by
  simp [fitB] at h1 h2
  rw [eqV_iff]
  omega
theorem fit_trans {a b c x y z p q r : Int} (h1 : fitB a b c x y z = true) (h2 : fitB x y z p q r = true) : fitB a b c p q r = true := by
  simp [fitB] at h1 h2 ⊢
  omega
theorem fit_plus {a b c x y z : Int} (h : fitB 0 0 0 x y z = true) : fitB a b c (a + x) (b + y) (c + z) = true := by
  simp [fitB] at h ⊢
  omega
set_option maxHeartbeats 1000000 in
theorem law_fits (a b c x y z p q r : Int) (w : World) (ba : I64 a) (bb : I64 b) (bc : I64 c) (bx : I64 x) (by' : I64 y) (bz : I64 z) :
    Calls Try.prog 8 #[.agg #[.int .i64 a, .int .i64 b, .int .i64 c], .agg #[.int .i64 x, .int .i64 y, .int .i64 z], .agg #[.int .i64 p, .int .i64 q, .int .i64 r]] w (RetBelow (.bool true) w) := by
  have ca := Lib.hid fun W : World => add_ret a b c x y z W ba bb bc bx by' bz
  have tail : (∃ s t u e, outV (a + x) (b + y) (c + z) = .tuple #[.agg #[.int .i64 s, .int .i64 t, .int .i64 u], .int .i64 e] ∧ (e = 6 ∨ (e = 0 ∧ (fitB 0 0 0 x y z = false ∨ (fitB 0 0 0 x y z = true ∧ fitB a b c s t u = true))))) := by
    unfold outV
    split
    · refine ⟨_, _, _, _, rfl, .inr ⟨rfl, ?_⟩⟩
      cases h : fitB 0 0 0 x y z with
      | false => exact .inl rfl
      | true => exact .inr ⟨rfl, fit_plus h⟩
    · exact ⟨_, _, _, _, rfl, .inl rfl⟩
  obtain ⟨s, t, u, e, he, tail⟩ := tail
  rw [he] at ca
  clear he ba bb bc bx by' bz
  have faa := fit_refl a b c
  have K := ((BK.new w a b c).alloc (.cells #[.int .i64 x, .int .i64 y, .int .i64 z] 23)).alloc (.cells #[.int .i64 p, .int .i64 q, .int .i64 r] 23)
  have L := (BK.new (w.alloc (.cells #[.int .i64 a, .int .i64 b, .int .i64 c] 23)) x y z).alloc (.cells #[.int .i64 p, .int .i64 q, .int .i64 r] 23)
  have M := BK.new ((w.alloc (.cells #[.int .i64 a, .int .i64 b, .int .i64 c] 23)).alloc (.cells #[.int .i64 x, .int .i64 y, .int .i64 z] 23)) p q r
  have B : Below w.heap.size w (((w.alloc (.cells #[.int .i64 a, .int .i64 b, .int .i64 c] 23)).alloc (.cells #[.int .i64 x, .int .i64 y, .int .i64 z] 23)).alloc (.cells #[.int .i64 p, .int .i64 q, .int .i64 r] 23)) := (((Below.refl _ _).alloc (Nat.le_refl _) _).alloc (by simp) _).alloc (by simp; omega) _
  simp only [World.size_alloc] at K L M
  have K := Lib.hid K
  have L := Lib.hid L
  have M := Lib.hid M
  have B := Lib.hid B
  have cas : fitB a b c x y z = false ∨ (fitB a b c x y z = true ∧ fitB x y z a b c = false ∧ fitB x y z p q r = false) ∨ (fitB a b c x y z = true ∧ fitB x y z a b c = true ∧ eqV a b c x y z = true ∧ fitB x y z p q r = false) ∨ (fitB a b c x y z = true ∧ fitB x y z a b c = false ∧ fitB x y z p q r = true ∧ fitB a b c p q r = true) ∨ (fitB a b c x y z = true ∧ fitB x y z a b c = true ∧ eqV a b c x y z = true ∧ fitB x y z p q r = true ∧ fitB a b c p q r = true) := by
    cases h1 : fitB a b c x y z with
    | false => exact .inl rfl
    | true =>
      refine .inr ?_
      cases h2 : fitB x y z a b c with
      | false =>
        cases h3 : fitB x y z p q r with
        | false => exact .inl ⟨rfl, rfl, rfl⟩
        | true => exact .inr (.inr (.inl ⟨rfl, rfl, rfl, fit_trans h1 h3⟩))
      | true =>
        cases h3 : fitB x y z p q r with
        | false => exact .inr (.inl ⟨rfl, rfl, fit_antisymm h1 h2, rfl⟩)
        | true => exact .inr (.inr (.inr ⟨rfl, rfl, fit_antisymm h1 h2, rfl, fit_trans h1 h3⟩))
  have hq := fun W => eq23 a b c x y z W
  go_enter Try.func8, Try.ntmps8
  go_wp2_with fail
  refine (awake_any _).mono ?_
  rintro _ w1 ⟨rfl, hb⟩
  have B := Lib.hid (B.out.trans (hb.mono B.out.size))
  have K := Lib.hid (K.out.on hb K.out.lt)
  have L := Lib.hid (L.out.on hb L.out.lt)
  have M := Lib.hid (M.out.on hb M.out.lt)
  clear hb
  obtain ⟨d0, d1, d2⟩ := K.out.c3
  obtain ⟨e0, e1, e2⟩ := L.out.c3
  obtain ⟨g0, g1, g2⟩ := M.out.c3
  have CA := Lib.hid cas
  have TA := Lib.hid tail
  clear cas tail
  rcases CA.out with h | ⟨h1, h2, h3⟩ | ⟨h1, h2, h3, h4⟩ | ⟨h1, h2, h3, h4⟩ | ⟨h1, h2, h3, h4, h5⟩
  all_goals
    clear CA
    rcases TA.out with rfl | ⟨rfl, ht' | ⟨ht', ht''⟩⟩
  all_goals
    clear TA
    go_wp2_with (first
      | (go_at_call 17; refine (fits_any _ _ _ _ _ _ _).mono ?_; rintro _ w' ⟨rfl, hb⟩; have B := Lib.hid (B.out.trans (hb.mono B.out.size)); have K := Lib.hid (K.out.on hb K.out.lt); have L := Lib.hid (L.out.on hb L.out.lt); have M := Lib.hid (M.out.on hb M.out.lt); obtain ⟨d0, d1, d2⟩ := K.out.c3; obtain ⟨e0, e1, e2⟩ := L.out.c3; obtain ⟨g0, g1, g2⟩ := M.out.c3; clear hb)
      | (go_at_call 15; refine (may_any _ _ _ _).mono ?_; rintro _ w' ⟨rfl, hb⟩; have B := Lib.hid (B.out.trans (hb.mono B.out.size)); have K := Lib.hid (K.out.on hb K.out.lt); have L := Lib.hid (L.out.on hb L.out.lt); have M := Lib.hid (M.out.on hb M.out.lt); obtain ⟨d0, d1, d2⟩ := K.out.c3; obtain ⟨e0, e1, e2⟩ := L.out.c3; obtain ⟨g0, g1, g2⟩ := M.out.c3; clear hb))
  all_goals
    refine (ca.out _).mono ?_
    rintro _ w2 ⟨rfl, hb⟩
    have B := Lib.hid ((B.out.trans (hb.mono B.out.size)).alloc (by have := B.out.size; have := hb.size; omega) (.cells #[.int .i64 s, .int .i64 t, .int .i64 u] 23))
    have K := Lib.hid ((K.out.on hb K.out.lt).alloc (.cells #[.int .i64 s, .int .i64 t, .int .i64 u] 23))
    have L := Lib.hid ((L.out.on hb L.out.lt).alloc (.cells #[.int .i64 s, .int .i64 t, .int .i64 u] 23))
    have N := Lib.hid (BK.new w2 s t u)
    obtain ⟨d0, d1, d2⟩ := K.out.c3
    obtain ⟨e0, e1, e2⟩ := L.out.c3
    obtain ⟨g0, g1, g2⟩ := N.out.c3
    clear hb
    go_wp2_with (first
      | (go_at_call 17; refine (fits_any _ _ _ _ _ _ _).mono ?_; rintro _ w' ⟨rfl, hb⟩; have B := Lib.hid (B.out.trans (hb.mono B.out.size)); have K := Lib.hid (K.out.on hb K.out.lt); have L := Lib.hid (L.out.on hb L.out.lt); have N := Lib.hid (N.out.on hb N.out.lt); obtain ⟨d0, d1, d2⟩ := K.out.c3; obtain ⟨e0, e1, e2⟩ := L.out.c3; obtain ⟨g0, g1, g2⟩ := N.out.c3; clear hb)
      | (go_at_call 15; refine (may_any _ _ _ _).mono ?_; rintro _ w' ⟨rfl, hb⟩; have B := Lib.hid (B.out.trans (hb.mono B.out.size)); have K := Lib.hid (K.out.on hb K.out.lt); have L := Lib.hid (L.out.on hb L.out.lt); have N := Lib.hid (N.out.on hb N.out.lt); obtain ⟨d0, d1, d2⟩ := K.out.c3; obtain ⟨e0, e1, e2⟩ := L.out.c3; obtain ⟨g0, g1, g2⟩ := N.out.c3; clear hb))
    go_ret
    refine ⟨?_, B.out⟩
    first | rfl | (rw [ht'']; rfl)
end Go.Proofs.Ytcmjehjjlbhlmaa
