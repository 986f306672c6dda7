import Derived.Test.YtjpnkecfoealoaaVSh
namespace Go.Proofs.Ytjpnkecfoealoaa.Vc
set_option maxRecDepth 20000
open Go.RowKit
set_option linter.unusedVariables false
def mx (x y : Int) : Int := if x < y then y else x
theorem mx_fold (x y : Int) : (if x < y then y else x) = mx x y := rfl
def shV (a b c x y z : Int) : Int := mx (mx (mx 0 (shr a x)) (shr b y)) (shr c z)
/-- the share of two Vecs -/
def shA (a b c x y z : Int) : Int := if fitB 0 0 0 a b c && fitB 0 0 0 x y z then shV a b c x y z else 0
theorem may_iff {a b c : Int} : fitB 0 0 0 a b c = true ↔ 0 ≤ a ∧ 0 ≤ b ∧ 0 ≤ c := by simp [fitB, and_assoc]
set_option maxHeartbeats 1000000 in
theorem share_any (a b c x y z : Int) (w : World) (ba : I64 a) (bb : I64 b) (bc : I64 c) (bx : I64 x) (by' : I64 y) (bz : I64 z) :
    Calls Try.prog 32 #[.agg #[.int .i64 a, .int .i64 b, .int .i64 c], .agg #[.int .i64 x, .int .i64 y, .int .i64 z]] w (RetBelow (.int .i64 (shA a b c x y z)) w) := by
  have c1 := Lib.hid fun W : World => may_any a b c W
  have c2 := Lib.hid fun W : World => may_any x y z W
  have K1 := (BK.new w a b c).alloc (.cells #[.int .i64 x, .int .i64 y, .int .i64 z] 24)
  have K2 := BK.new (w.alloc (.cells #[.int .i64 a, .int .i64 b, .int .i64 c] 24)) x y z
  have B0 : Below w.heap.size w ((w.alloc (.cells #[.int .i64 a, .int .i64 b, .int .i64 c] 24)).alloc (.cells #[.int .i64 x, .int .i64 y, .int .i64 z] 24)) := ((Below.refl _ _).alloc (Nat.le_refl _) _).alloc (by simp) _
  simp only [World.size_alloc] at K1 K2
  have K1 := Lib.hid K1
  have K2 := Lib.hid K2
  have B0 := Lib.hid B0
  cases hm1 : fitB 0 0 0 a b c with
  | false =>
    rw [hm1] at c1
    rw [show shA a b c x y z = 0 from by unfold shA; rw [hm1]; rfl]
    go_enter Try.func32, Try.ntmps32
    go_wp2_with fail
    refine (c1.out _).mono ?_
    rintro _ w1 ⟨rfl, hb⟩
    have B1 := Lib.hid (B0.out.trans (hb.mono B0.out.size))
    clear hb
    go_wp2_with fail
    go_ret
    exact ⟨rfl, B1.out⟩
  | true =>
    cases hm2 : fitB 0 0 0 x y z with
    | false =>
      rw [hm1] at c1
      rw [hm2] at c2
      rw [show shA a b c x y z = 0 from by unfold shA; rw [hm1, hm2]; rfl]
      go_enter Try.func32, Try.ntmps32
      go_wp2_with fail
      refine (c1.out _).mono ?_
      rintro _ w1 ⟨rfl, hb⟩
      have B1 := Lib.hid (B0.out.trans (hb.mono B0.out.size))
      obtain ⟨d0, d1, d2⟩ := (K2.out.on hb (by simp)).c3
      clear hb
      go_wp2_with fail
      refine (c2.out _).mono ?_
      rintro _ w2 ⟨rfl, hb⟩
      have B2 := Lib.hid (B1.out.trans (hb.mono B1.out.size))
      clear hb
      go_wp2_with fail
      go_ret
      exact ⟨rfl, B2.out⟩
    | true =>
      rw [hm1] at c1
      rw [hm2] at c2
      rw [show shA a b c x y z = shV a b c x y z from by unfold shA; rw [hm1, hm2]; rfl]
      have n1 := may_iff.1 hm1
      have n2 := may_iff.1 hm2
      have s1 := Lib.hid fun W : World => share1_any a x W n1.1 ba.2 n2.1 bx.2
      have s2 := Lib.hid fun W : World => share1_any b y W n1.2.1 bb.2 n2.2.1 by'.2
      have s3 := Lib.hid fun W : World => share1_any c z W n1.2.2 bc.2 n2.2.2 bz.2
      clear n1 n2 ba bb bc bx by' bz
      unfold shV
      generalize shr a x = p at *
      generalize shr b y = q at *
      generalize shr c z = r at *
      go_enter Try.func32, Try.ntmps32
      go_wp2_with fail
      refine (c1.out _).mono ?_
      rintro _ w1 ⟨rfl, hb⟩
      have B1 := Lib.hid (B0.out.trans (hb.mono B0.out.size))
      have L1 := Lib.hid (K1.out.on hb (by simp; omega))
      have L2 := Lib.hid (K2.out.on hb (by simp))
      obtain ⟨d0, d1, d2⟩ := L2.out.c3
      clear hb
      go_wp2_with fail
      refine (c2.out _).mono ?_
      rintro _ w2 ⟨rfl, hb⟩
      have B2 := Lib.hid (B1.out.trans (hb.mono B1.out.size))
      clear d0 d1 d2
      obtain ⟨e0, e1, e2⟩ := (L1.out.on hb L1.out.lt).c3
      obtain ⟨d0, d1, d2⟩ := (L2.out.on hb L2.out.lt).c3
      clear hb
      go_wp2_with fail
      refine wp_loop_rounds 4 ?_
      rw [rounds_succ]
      go_wp2_with fail
      go_quiet ((go_at_call 44; exact Calls.quiet_of (s1.out _)))
      simp only [mx_fold]
      go_wp2_with fail
      refine rounds_forget (fun W => (C3 W w.heap.size a b c ∧ C3 W (w.heap.size + 1) x y z) ∧ Below w.heap.size w W) ⟨⟨⟨e0, e1, e2⟩, d0, d1, d2⟩, below_drewN B2.out nq⟩ ?_
      clear e0 e1 e2 d0 d1 d2 B2
      rintro w2 ⟨⟨⟨e0, e1, e2⟩, d0, d1, d2⟩, bb⟩
      have B2 := Lib.hid bb
      clear bb
      rw [rounds_succ]
      go_wp2_with fail
      go_quiet ((go_at_call 44; exact Calls.quiet_of (s2.out _)))
      simp only [mx_fold]
      go_wp2_with fail
      refine rounds_forget (fun W => (C3 W w.heap.size a b c ∧ C3 W (w.heap.size + 1) x y z) ∧ Below w.heap.size w W) ⟨⟨⟨e0, e1, e2⟩, d0, d1, d2⟩, below_drewN B2.out nq⟩ ?_
      clear e0 e1 e2 d0 d1 d2 B2
      rintro w2 ⟨⟨⟨e0, e1, e2⟩, d0, d1, d2⟩, bb⟩
      have B2 := Lib.hid bb
      clear bb
      rw [rounds_succ]
      go_wp2_with fail
      go_quiet ((go_at_call 44; exact Calls.quiet_of (s3.out _)))
      simp only [mx_fold]
      go_wp2_with fail
      rw [rounds_succ]
      go_wp2_with fail
      go_ret
      exact ⟨rfl, below_drewN B2.out nq⟩
end Go.Proofs.Ytjpnkecfoealoaa.Vc
