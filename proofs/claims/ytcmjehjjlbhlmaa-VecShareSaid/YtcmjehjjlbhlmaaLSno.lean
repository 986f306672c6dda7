import Derived.Test.YtcmjehjjlbhlmaaPs
namespace Go.Proofs.Ytcmjehjjlbhlmaa
open Go.RowKit
set_option linter.unusedVariables false
set_option maxHeartbeats 1000000 in
theorem law_share_no (a b c x y z p q r : Int) (w : World) (ba : I64 a) (bb : I64 b) (bc : I64 c) (bx : I64 x) (by' : I64 y) (bz : I64 z) (hno : fitB 0 0 0 a b c = false ∨ (fitB 0 0 0 a b c = true ∧ (fitB 0 0 0 x y z = false ∨ (fitB 0 0 0 x y z = true ∧ fitB 0 0 0 p q r = false)))) :
    Calls Try.prog 7 #[.agg #[.int .i64 a, .int .i64 b, .int .i64 c], .agg #[.int .i64 x, .int .i64 y, .int .i64 z], .agg #[.int .i64 p, .int .i64 q, .int .i64 r]] w (RetBelow (.bool true) w) := by
  have ts : fitB 0 0 0 a b c = false → ∀ W : World, Calls Try.prog 19 #[.agg #[.int .i64 a, .int .i64 b, .int .i64 c], .agg #[.int .i64 x, .int .i64 y, .int .i64 z]] W (RetBelow (.int .i64 0) W) := fun h W => by
    have := share_any a b c x y z W ba bb bc bx by' bz
    rwa [show shA a b c x y z = 0 from by unfold shA; rw [h]; rfl] at this
  have K := ((BK.new w a b c).alloc (.cells #[.int .i64 x, .int .i64 y, .int .i64 z] 23)).alloc (.cells #[.int .i64 p, .int .i64 q, .int .i64 r] 23)
  have L := (BK.new (w.alloc (.cells #[.int .i64 a, .int .i64 b, .int .i64 c] 23)) x y z).alloc (.cells #[.int .i64 p, .int .i64 q, .int .i64 r] 23)
  have M := BK.new ((w.alloc (.cells #[.int .i64 a, .int .i64 b, .int .i64 c] 23)).alloc (.cells #[.int .i64 x, .int .i64 y, .int .i64 z] 23)) p q r
  have B : Below w.heap.size w (((w.alloc (.cells #[.int .i64 a, .int .i64 b, .int .i64 c] 23)).alloc (.cells #[.int .i64 x, .int .i64 y, .int .i64 z] 23)).alloc (.cells #[.int .i64 p, .int .i64 q, .int .i64 r] 23)) := (((Below.refl _ _).alloc (Nat.le_refl _) _).alloc (by simp) _).alloc (by simp; omega) _
  simp only [World.size_alloc] at K L M
  have K := Lib.hid K
  have L := Lib.hid L
  have M := Lib.hid M
  have B := Lib.hid B
  have aw := Lib.hid fun W : World => awake_any W
  rcases hno with h1 | ⟨h1, h2 | ⟨h2, h3⟩⟩
  · have TS := Lib.hid (ts h1)
    clear ts
    go_enter Try.func7, Try.ntmps7
    go_wp2_with fail
    refine (aw.out _).mono ?_
    rintro _ v1 ⟨rfl, hb⟩
    have B := Lib.hid (below_step B.out hb)
    have K := Lib.hid (K.out.on hb K.out.lt)
    have L := Lib.hid (L.out.on hb L.out.lt)
    have M := Lib.hid (M.out.on hb M.out.lt)
    clear hb
    obtain ⟨K0, K1, K2⟩ := K.out.c3
    obtain ⟨L0, L1, L2⟩ := L.out.c3
    obtain ⟨M0, M1, M2⟩ := M.out.c3
    go_wp2_with (first | (go_at_call 15; refine (may_any _ _ _ _).mono ?_; rintro _ w' ⟨rfl, hb⟩; have B := Lib.hid (below_step B.out hb); have K := Lib.hid (K.out.on hb K.out.lt); have L := Lib.hid (L.out.on hb L.out.lt); have M := Lib.hid (M.out.on hb M.out.lt); clear hb; obtain ⟨K0, K1, K2⟩ := K.out.c3; obtain ⟨L0, L1, L2⟩ := L.out.c3; obtain ⟨M0, M1, M2⟩ := M.out.c3) | (go_at_call 19; refine (TS.out _).mono ?_; rintro _ w' ⟨rfl, hb⟩; have B := Lib.hid (below_step B.out hb); have K := Lib.hid (K.out.on hb K.out.lt); have L := Lib.hid (L.out.on hb L.out.lt); have M := Lib.hid (M.out.on hb M.out.lt); clear hb; obtain ⟨K0, K1, K2⟩ := K.out.c3; obtain ⟨L0, L1, L2⟩ := L.out.c3; obtain ⟨M0, M1, M2⟩ := M.out.c3))
    go_ret
    exact ⟨by first | rfl | simp, B.out⟩
  · clear ts
    go_enter Try.func7, Try.ntmps7
    go_wp2_with fail
    refine (aw.out _).mono ?_
    rintro _ v1 ⟨rfl, hb⟩
    have B := Lib.hid (below_step B.out hb)
    have K := Lib.hid (K.out.on hb K.out.lt)
    have L := Lib.hid (L.out.on hb L.out.lt)
    have M := Lib.hid (M.out.on hb M.out.lt)
    clear hb
    obtain ⟨K0, K1, K2⟩ := K.out.c3
    obtain ⟨L0, L1, L2⟩ := L.out.c3
    obtain ⟨M0, M1, M2⟩ := M.out.c3
    go_wp2_with (go_at_call 15; refine (may_any _ _ _ _).mono ?_; rintro _ w' ⟨rfl, hb⟩; have B := Lib.hid (below_step B.out hb); have K := Lib.hid (K.out.on hb K.out.lt); have L := Lib.hid (L.out.on hb L.out.lt); have M := Lib.hid (M.out.on hb M.out.lt); clear hb; obtain ⟨K0, K1, K2⟩ := K.out.c3; obtain ⟨L0, L1, L2⟩ := L.out.c3; obtain ⟨M0, M1, M2⟩ := M.out.c3)
    go_ret
    exact ⟨by first | rfl | simp, B.out⟩
  · clear ts
    go_enter Try.func7, Try.ntmps7
    go_wp2_with fail
    refine (aw.out _).mono ?_
    rintro _ v1 ⟨rfl, hb⟩
    have B := Lib.hid (below_step B.out hb)
    have K := Lib.hid (K.out.on hb K.out.lt)
    have L := Lib.hid (L.out.on hb L.out.lt)
    have M := Lib.hid (M.out.on hb M.out.lt)
    clear hb
    obtain ⟨K0, K1, K2⟩ := K.out.c3
    obtain ⟨L0, L1, L2⟩ := L.out.c3
    obtain ⟨M0, M1, M2⟩ := M.out.c3
    go_wp2_with (go_at_call 15; refine (may_any _ _ _ _).mono ?_; rintro _ w' ⟨rfl, hb⟩; have B := Lib.hid (below_step B.out hb); have K := Lib.hid (K.out.on hb K.out.lt); have L := Lib.hid (L.out.on hb L.out.lt); have M := Lib.hid (M.out.on hb M.out.lt); clear hb; obtain ⟨K0, K1, K2⟩ := K.out.c3; obtain ⟨L0, L1, L2⟩ := L.out.c3; obtain ⟨M0, M1, M2⟩ := M.out.c3)
    go_ret
    exact ⟨by first | rfl | simp, B.out⟩
end Go.Proofs.Ytcmjehjjlbhlmaa
