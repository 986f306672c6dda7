import Derived.Test.YtjpnkecfoealoaaQg
import Derived.Test.YtjpnkecfoealoaaNc
import Derived.Test.YtjpnkecfoealoaaNe
import Derived.Test.YtjpnkecfoealoaaVRh
namespace Go.Proofs.Ytjpnkecfoealoaa
set_option maxRecDepth 20000
open Go.RowKit
open Go.Proofs.Ytjpnkecfoealoaa.Vc (I64 fitB RetBelow outV vecV shA shV)
set_option linter.unusedVariables false
/-! ### the document's answer -/
theorem refMayN (s : List UInt8) (W : World) (hs : s.length ≤ 281474976710656) : Calls Try.prog 29 #[.string (Nm.str s)] W (RetBelow (.bool (Nm.may (Nm.str s).data.toList)) W) :=
  (Nm.refMay_str s W hs).mono fun e w' ⟨h1, h2⟩ => ⟨h1, by subst h2; exact Below.refl _ _⟩
theorem refPMay_any (n : Nd) (w : World) (hs : n.s.length ≤ 281474976710656) : Calls Try.prog 16 #[nodeV n] w (RetBelow (.bool (nmay n)) w) := by
  have k1 := Lib.hid fun W : World => refMayN n.s W hs
  have k2 := Lib.hid fun W : World => Vc.refMay_any n.a n.b n.c W
  have k3 := Lib.hid fun W : World => Vc.refMay_any n.x n.y n.z W
  have k4 := Lib.hid fun W : World => Vc.refFits_any n.x n.y n.z n.a n.b n.c W
  have hr : nmay n = (Nm.may (Nm.str n.s).data.toList && (fitB 0 0 0 n.a n.b n.c && (fitB 0 0 0 n.x n.y n.z && fitB n.x n.y n.z n.a n.b n.c))) := rfl
  rw [hr]
  clear hr hs
  have K := NK.new w n
  have B := (Below.refl w.heap.size w).alloc (Nat.le_refl _) (.cells (nodeC n).toArray 33)
  unfold nodeV nodeC
  unfold nodeC at K B
  have K := Lib.hid K
  have B := Lib.hid B
  generalize Nm.may (Nm.str n.s).data.toList = m1 at *
  generalize fitB 0 0 0 n.a n.b n.c = m2 at *
  generalize fitB 0 0 0 n.x n.y n.z = m3 at *
  generalize fitB n.x n.y n.z n.a n.b n.c = m4 at *
  have HF : ∀ W : World, Below w.heap.size w W → NK W w.heap.size n → NC W w.heap.size n := fun W _ h => h.cells
  have HF := Lib.hid HF
  go_enter Try.func16, Try.ntmps16
  go_wp2_with fail
  have hsz : w.heap.size < (w.alloc (.cells #[.string (Nm.str n.s), .int .i64 n.a, .int .i64 n.b, .int .i64 n.c, .int .i64 n.x, .int .i64 n.y, .int .i64 n.z, .bool n.d] 33)).heap.size := by simp
  generalize (w.alloc (.cells #[.string (Nm.str n.s), .int .i64 n.a, .int .i64 n.b, .int .i64 n.c, .int .i64 n.x, .int .i64 n.y, .int .i64 n.z, .bool n.d] 33)) = W0 at *
  have HC : ∀ W : World, Below W0.heap.size W0 W → NC W w.heap.size n := fun W h => (K.out.on h hsz).cells
  have HC := Lib.hid HC
  have DONE := B
  clear HF
  obtain ⟨c0, c1, c2, c3, c4, c5, c6, c7⟩ := HC.out _ (Below.refl _ _)
  have B0 : Hid (Below W0.heap.size W0 W0) := Lib.hid (Below.refl _ _)
  cases m1 with
  | false =>
    go_wp2_with (go_at_call 29; (with_reducible refine (k1.out _).mono ?_); rintro e w1 ⟨rfl, hb⟩; have B1 := Lib.hid (B0.out.trans (hb.mono B0.out.size)); clear hb; obtain ⟨c0, c1, c2, c3, c4, c5, c6, c7⟩ := HC.out _ B1.out)
    go_ret
    exact ⟨rfl, B.out.trans (B1.out.mono (Nat.le_of_lt hsz))⟩
  | true =>
  cases m2 with
  | false =>
    go_wp2_with (first | (go_at_call 29; (with_reducible refine (k1.out _).mono ?_); rintro e w1 ⟨rfl, hb⟩; have B1 := Lib.hid (B0.out.trans (hb.mono B0.out.size)); clear hb; obtain ⟨c0, c1, c2, c3, c4, c5, c6, c7⟩ := HC.out _ B1.out) | (go_at_call 23; (with_reducible refine (k2.out _).mono ?_); rintro e w2 ⟨rfl, hb⟩; have B2 := Lib.hid (B1.out.trans (hb.mono B1.out.size)); clear hb; obtain ⟨c0, c1, c2, c3, c4, c5, c6, c7⟩ := HC.out _ B2.out))
    go_ret
    exact ⟨rfl, B.out.trans (B2.out.mono (Nat.le_of_lt hsz))⟩
  | true =>
  cases m3 with
  | false =>
    go_wp2_with (first | (go_at_call 29; (with_reducible refine (k1.out _).mono ?_); rintro e w1 ⟨rfl, hb⟩; have B1 := Lib.hid (B0.out.trans (hb.mono B0.out.size)); clear hb; obtain ⟨c0, c1, c2, c3, c4, c5, c6, c7⟩ := HC.out _ B1.out) | (go_at_call 23; (with_reducible refine (k2.out _).mono ?_); rintro e w2 ⟨rfl, hb⟩; have B2 := Lib.hid (B1.out.trans (hb.mono B1.out.size)); clear hb; obtain ⟨c0, c1, c2, c3, c4, c5, c6, c7⟩ := HC.out _ B2.out) | (go_at_call 23; (with_reducible refine (k3.out _).mono ?_); rintro e w3 ⟨rfl, hb⟩; have B3 := Lib.hid (B2.out.trans (hb.mono B2.out.size)); clear hb; obtain ⟨c0, c1, c2, c3, c4, c5, c6, c7⟩ := HC.out _ B3.out))
    go_ret
    exact ⟨rfl, B.out.trans (B3.out.mono (Nat.le_of_lt hsz))⟩
  | true =>
  go_wp2_with (first | (go_at_call 29; (with_reducible refine (k1.out _).mono ?_); rintro e w1 ⟨rfl, hb⟩; have B1 := Lib.hid (B0.out.trans (hb.mono B0.out.size)); clear hb; obtain ⟨c0, c1, c2, c3, c4, c5, c6, c7⟩ := HC.out _ B1.out) | (go_at_call 23; (with_reducible refine (k2.out _).mono ?_); rintro e w2 ⟨rfl, hb⟩; have B2 := Lib.hid (B1.out.trans (hb.mono B1.out.size)); clear hb; obtain ⟨c0, c1, c2, c3, c4, c5, c6, c7⟩ := HC.out _ B2.out) | (go_at_call 23; (with_reducible refine (k3.out _).mono ?_); rintro e w3 ⟨rfl, hb⟩; have B3 := Lib.hid (B2.out.trans (hb.mono B2.out.size)); clear hb; obtain ⟨c0, c1, c2, c3, c4, c5, c6, c7⟩ := HC.out _ B3.out) | (go_at_call 30; (with_reducible refine (k4.out _).mono ?_); rintro e w4 ⟨rfl, hb⟩; have B4 := Lib.hid (B3.out.trans (hb.mono B3.out.size)); clear hb; obtain ⟨c0, c1, c2, c3, c4, c5, c6, c7⟩ := HC.out _ B4.out))
  go_ret
  exact ⟨rfl, B.out.trans (B4.out.mono (Nat.le_of_lt hsz))⟩

set_option maxHeartbeats 2000000 in
theorem refScore_core (s : List UInt8) (a b c x y z p q r X Y Z E T : Int) (d m1 m2 m4 : Bool) (w : World)
    (k1 : Hid (∀ W : World, Calls Try.prog 16 #[.agg #[.string (Nm.str s), .int .i64 a, .int .i64 b, .int .i64 c, .int .i64 x, .int .i64 y, .int .i64 z, .bool d]] W (RetBelow (.bool m1) W)))
    (k2 : Hid (∀ W : World, Calls Try.prog 23 #[.agg #[.int .i64 p, .int .i64 q, .int .i64 r]] W (RetBelow (.bool m2) W)))
    (k3 : Hid (∀ W : World, Calls Try.prog 33 #[.agg #[.int .i64 x, .int .i64 y, .int .i64 z], .agg #[.int .i64 p, .int .i64 q, .int .i64 r]] W (RetBelow (vecV X Y Z E) W)))
    (k4' : Hid (E = 0 → ∀ W : World, Calls Try.prog 30 #[.agg #[.int .i64 X, .int .i64 Y, .int .i64 Z], .agg #[.int .i64 a, .int .i64 b, .int .i64 c]] W (RetBelow (.bool m4) W)))
    (k5' : Hid (m1 = true → d = false → m2 = true → E = 0 → m4 = true → ∀ W : World, Calls Try.prog 34 #[.agg #[.int .i64 X, .int .i64 Y, .int .i64 Z], .agg #[.int .i64 a, .int .i64 b, .int .i64 c]] W (RetBelow (.int .i64 T) W)))
    (hE : Hid (E = 0 ∨ E = 6)) (U : Int) (hU : Hid (U = if m1 && (!d && (m2 && ((E == 0) && m4))) then T else -1)) :
    Calls Try.prog 18 #[.agg #[.string (Nm.str s), .int .i64 a, .int .i64 b, .int .i64 c, .int .i64 x, .int .i64 y, .int .i64 z, .bool d], .agg #[.int .i64 p, .int .i64 q, .int .i64 r]] w (RetBelow (.int .i64 U) w) := by
  have K := (NK.new w ⟨s, a, b, c, x, y, z, d⟩).alloc (.cells #[.int .i64 p, .int .i64 q, .int .i64 r] 24)
  have V := Vc.BK.new (w.alloc (.cells #[.string (Nm.str s), .int .i64 a, .int .i64 b, .int .i64 c, .int .i64 x, .int .i64 y, .int .i64 z, .bool d] 33)) p q r
  have hsz : ((w.alloc (.cells #[.string (Nm.str s), .int .i64 a, .int .i64 b, .int .i64 c, .int .i64 x, .int .i64 y, .int .i64 z, .bool d] 33)).alloc (.cells #[.int .i64 p, .int .i64 q, .int .i64 r] 24)).heap.size = w.heap.size + 2 := by simp
  have B := below2 w (.cells #[.string (Nm.str s), .int .i64 a, .int .i64 b, .int .i64 c, .int .i64 x, .int .i64 y, .int .i64 z, .bool d] 33) (.cells #[.int .i64 p, .int .i64 q, .int .i64 r] 24)
  simp only [World.size_alloc] at V
  unfold nodeC at K
  unfold vecV at k3
  go_enter Try.func18, Try.ntmps18
  go_wp2_with fail
  generalize ((w.alloc (.cells #[.string (Nm.str s), .int .i64 a, .int .i64 b, .int .i64 c, .int .i64 x, .int .i64 y, .int .i64 z, .bool d] 33)).alloc (.cells #[.int .i64 p, .int .i64 q, .int .i64 r] 24)) = W0 at *
  have HC : ∀ W : World, Below W0.heap.size W0 W → NC W w.heap.size ⟨s, a, b, c, x, y, z, d⟩ := fun W h => NK.cells (NK.on (n := ⟨s, a, b, c, x, y, z, d⟩) K h (by omega))
  have HC := Lib.hid HC
  have HV : ∀ W : World, Below W0.heap.size W0 W → Vc.BK W (w.heap.size + 1) p q r := fun W h => V.on h (by omega)
  have HV := Lib.hid HV
  have B := Lib.hid B
  have SZ := Lib.hid hsz
  clear K V hsz
  have B0 : Hid (Below W0.heap.size W0 W0) := Lib.hid (Below.refl _ _)
  obtain ⟨c0, c1, c2, c3, c4, c5, c6, c7⟩ := HC.out _ B0.out
  obtain ⟨v0, v1, v2⟩ := (HV.out _ B0.out).c3
  cases m1 with
  | false =>
    go_wp2_with (go_at_call 16; (with_reducible refine (k1.out _).mono ?_); rintro e w1 ⟨rfl, hb⟩; have B1 := Lib.hid (B0.out.trans (hb.mono B0.out.size)); clear hb; obtain ⟨c0, c1, c2, c3, c4, c5, c6, c7⟩ := HC.out _ B1.out; obtain ⟨v0, v1, v2⟩ := (HV.out _ B1.out).c3)
    go_ret
    exact ⟨by rw [hU.out]; rfl, B.out.trans (B1.out.mono (by have := SZ.out; omega))⟩
  | true =>
  cases d with
  | true =>
    go_wp2_with (go_at_call 16; (with_reducible refine (k1.out _).mono ?_); rintro e w1 ⟨rfl, hb⟩; have B1 := Lib.hid (B0.out.trans (hb.mono B0.out.size)); clear hb; obtain ⟨c0, c1, c2, c3, c4, c5, c6, c7⟩ := HC.out _ B1.out; obtain ⟨v0, v1, v2⟩ := (HV.out _ B1.out).c3)
    go_ret
    exact ⟨by rw [hU.out]; rfl, B.out.trans (B1.out.mono (by have := SZ.out; omega))⟩
  | false =>
  cases m2 with
  | false =>
    go_wp2_with (first | (go_at_call 16; (with_reducible refine (k1.out _).mono ?_); rintro e w1 ⟨rfl, hb⟩; have B1 := Lib.hid (B0.out.trans (hb.mono B0.out.size)); clear hb; obtain ⟨c0, c1, c2, c3, c4, c5, c6, c7⟩ := HC.out _ B1.out; obtain ⟨v0, v1, v2⟩ := (HV.out _ B1.out).c3) | (go_at_call 23; (with_reducible refine (k2.out _).mono ?_); rintro e w2 ⟨rfl, hb⟩; have B2 := Lib.hid (B1.out.trans (hb.mono B1.out.size)); clear hb; obtain ⟨c0, c1, c2, c3, c4, c5, c6, c7⟩ := HC.out _ B2.out; obtain ⟨v0, v1, v2⟩ := (HV.out _ B2.out).c3))
    go_ret
    exact ⟨by rw [hU.out]; rfl, B.out.trans (B2.out.mono (by have := SZ.out; omega))⟩
  | true =>
  rcases hE.out with rfl | rfl
  · have k4 := Lib.hid (k4'.out rfl)
    clear k4' hE
    cases m4 with
    | false =>
      clear k5'
      go_wp2_with (first | (go_at_call 16; (with_reducible refine (k1.out _).mono ?_); rintro e w1 ⟨rfl, hb⟩; have B1 := Lib.hid (B0.out.trans (hb.mono B0.out.size)); clear hb; obtain ⟨c0, c1, c2, c3, c4, c5, c6, c7⟩ := HC.out _ B1.out; obtain ⟨v0, v1, v2⟩ := (HV.out _ B1.out).c3) | (go_at_call 23; (with_reducible refine (k2.out _).mono ?_); rintro e w2 ⟨rfl, hb⟩; have B2 := Lib.hid (B1.out.trans (hb.mono B1.out.size)); clear hb; obtain ⟨c0, c1, c2, c3, c4, c5, c6, c7⟩ := HC.out _ B2.out; obtain ⟨v0, v1, v2⟩ := (HV.out _ B2.out).c3) | (go_at_call 33; (with_reducible refine (k3.out _).mono ?_); rintro e w3 ⟨rfl, hb⟩; have B3 := Lib.hid (B2.out.trans (hb.mono B2.out.size)); clear hb; have B4 := Lib.hid (B3.out.alloc B3.out.size (.cells #[.int .i64 X, .int .i64 Y, .int .i64 Z] 24)); have N4 := Lib.hid (Vc.BK.new w3 X Y Z); obtain ⟨c0, c1, c2, c3, c4, c5, c6, c7⟩ := HC.out _ B4.out; obtain ⟨v0, v1, v2⟩ := (HV.out _ B4.out).c3) | (go_at_call 30; (with_reducible refine (k4.out _).mono ?_); rintro e w5 ⟨rfl, hb⟩; have B5 := Lib.hid (B4.out.trans (hb.mono B4.out.size)); have N5 := N4.out.on hb N4.out.lt; have B5 := B5; clear hb; obtain ⟨c0, c1, c2, c3, c4, c5, c6, c7⟩ := HC.out _ B5.out; obtain ⟨v0, v1, v2⟩ := (HV.out _ B5.out).c3; obtain ⟨n0, n1, n2⟩ := N5.c3))
      go_ret
      exact ⟨by rw [hU.out]; rfl, B.out.trans (B5.out.mono (by have := SZ.out; omega))⟩
    | true =>
      have k5 := Lib.hid (k5'.out rfl rfl rfl rfl rfl)
      clear k5'
      go_wp2_with (first | (go_at_call 16; (with_reducible refine (k1.out _).mono ?_); rintro e w1 ⟨rfl, hb⟩; have B1 := Lib.hid (B0.out.trans (hb.mono B0.out.size)); clear hb; obtain ⟨c0, c1, c2, c3, c4, c5, c6, c7⟩ := HC.out _ B1.out; obtain ⟨v0, v1, v2⟩ := (HV.out _ B1.out).c3) | (go_at_call 23; (with_reducible refine (k2.out _).mono ?_); rintro e w2 ⟨rfl, hb⟩; have B2 := Lib.hid (B1.out.trans (hb.mono B1.out.size)); clear hb; obtain ⟨c0, c1, c2, c3, c4, c5, c6, c7⟩ := HC.out _ B2.out; obtain ⟨v0, v1, v2⟩ := (HV.out _ B2.out).c3) | (go_at_call 33; (with_reducible refine (k3.out _).mono ?_); rintro e w3 ⟨rfl, hb⟩; have B3 := Lib.hid (B2.out.trans (hb.mono B2.out.size)); clear hb; have B4 := Lib.hid (B3.out.alloc B3.out.size (.cells #[.int .i64 X, .int .i64 Y, .int .i64 Z] 24)); have N4 := Lib.hid (Vc.BK.new w3 X Y Z); obtain ⟨c0, c1, c2, c3, c4, c5, c6, c7⟩ := HC.out _ B4.out; obtain ⟨v0, v1, v2⟩ := (HV.out _ B4.out).c3) | (go_at_call 30; (with_reducible refine (k4.out _).mono ?_); rintro e w5 ⟨rfl, hb⟩; have B5 := Lib.hid (B4.out.trans (hb.mono B4.out.size)); have N5 := N4.out.on hb N4.out.lt; have B5 := B5; clear hb; obtain ⟨c0, c1, c2, c3, c4, c5, c6, c7⟩ := HC.out _ B5.out; obtain ⟨v0, v1, v2⟩ := (HV.out _ B5.out).c3; obtain ⟨n0, n1, n2⟩ := N5.c3) | (go_at_call 34; (with_reducible refine (k5.out _).mono ?_); rintro e w6 ⟨rfl, hb⟩; have B6 := Lib.hid (B5.out.trans (hb.mono B5.out.size)); clear hb))
      go_ret
      exact ⟨by rw [hU.out]; rfl, B.out.trans (B6.out.mono (by have := SZ.out; omega))⟩
  · clear k4' k5'
    go_wp2_with (first | (go_at_call 16; (with_reducible refine (k1.out _).mono ?_); rintro e w1 ⟨rfl, hb⟩; have B1 := Lib.hid (B0.out.trans (hb.mono B0.out.size)); clear hb; obtain ⟨c0, c1, c2, c3, c4, c5, c6, c7⟩ := HC.out _ B1.out; obtain ⟨v0, v1, v2⟩ := (HV.out _ B1.out).c3) | (go_at_call 23; (with_reducible refine (k2.out _).mono ?_); rintro e w2 ⟨rfl, hb⟩; have B2 := Lib.hid (B1.out.trans (hb.mono B1.out.size)); clear hb; obtain ⟨c0, c1, c2, c3, c4, c5, c6, c7⟩ := HC.out _ B2.out; obtain ⟨v0, v1, v2⟩ := (HV.out _ B2.out).c3) | (go_at_call 33; (with_reducible refine (k3.out _).mono ?_); rintro e w3 ⟨rfl, hb⟩; have B3 := Lib.hid (B2.out.trans (hb.mono B2.out.size)); clear hb; have B4 := Lib.hid (B3.out.alloc B3.out.size (.cells #[.int .i64 X, .int .i64 Y, .int .i64 Z] 24)); have N4 := Lib.hid (Vc.BK.new w3 X Y Z); obtain ⟨c0, c1, c2, c3, c4, c5, c6, c7⟩ := HC.out _ B4.out; obtain ⟨v0, v1, v2⟩ := (HV.out _ B4.out).c3))
    go_ret
    exact ⟨by rw [hU.out]; rfl, B.out.trans (B4.out.mono (by have := SZ.out; omega))⟩
theorem refScore_any (n : Nd) (p q r : Int) (w : World) (ok : Nok n) (bp : I64 p) (bq : I64 q) (br : I64 r) : Calls Try.prog 18 #[nodeV n, .agg #[.int .i64 p, .int .i64 q, .int .i64 r]] w (RetBelow (.int .i64 (nscore n p q r)) w) := by
  obtain ⟨s, a, b, c, x, y, z, d⟩ := n
  have hin := fun h1 h2 h3 => takes_i64 (p := p) (q := q) (r := r) ok h1 h2 h3
  by_cases hI : I64 (x + p) ∧ I64 (y + q) ∧ I64 (z + r)
  · refine refScore_core s a b c x y z p q r (x + p) (y + q) (z + r) 0 (shV (x + p) (y + q) (z + r) a b c) d (nmay ⟨s, a, b, c, x, y, z, d⟩) (fitB 0 0 0 p q r) (fitB (x + p) (y + q) (z + r) a b c) w (Lib.hid fun W => refPMay_any ⟨s, a, b, c, x, y, z, d⟩ W ok.s) (Lib.hid fun W => Vc.refMay_any p q r W) (Lib.hid fun W => ?_) (Lib.hid fun _ W => Vc.refFits_any _ _ _ _ _ _ W) (Lib.hid fun h1 h2 h3 _ h5 W => ?_) (Lib.hid (.inl rfl)) _ (Lib.hid ?_)
    · have := Vc.refAdd_ret x y z p q r W ok.x ok.y ok.z bp bq br
      unfold outV at this
      rwa [if_pos hI] at this
    · have hm := h1
      unfold nmay at hm
      simp only [Bool.and_eq_true] at hm
      refine Vc.refShare_yes _ _ _ _ _ _ W hI.1 hI.2.1 hI.2.2 ok.a ok.b ok.c ?_ hm.2.1
      have g1 := hm.2.2.1
      simp only [fitB, Bool.and_eq_true, decide_eq_true_eq] at g1 h3 ⊢
      omega
    · unfold nscore ntakes
      cases nmay ⟨s, a, b, c, x, y, z, d⟩ <;> cases d <;> cases fitB 0 0 0 p q r <;> cases fitB (x + p) (y + q) (z + r) a b c <;> rfl
  · refine refScore_core s a b c x y z p q r 0 0 0 6 0 d (nmay ⟨s, a, b, c, x, y, z, d⟩) (fitB 0 0 0 p q r) false w (Lib.hid fun W => refPMay_any ⟨s, a, b, c, x, y, z, d⟩ W ok.s) (Lib.hid fun W => Vc.refMay_any p q r W) (Lib.hid fun W => ?_) (Lib.hid fun h => absurd h (by decide)) (Lib.hid fun _ _ _ h => absurd h (by decide)) (Lib.hid (.inr rfl)) _ (Lib.hid ?_)
    · have := Vc.refAdd_ret x y z p q r W ok.x ok.y ok.z bp bq br
      unfold outV at this
      rwa [if_neg hI] at this
    · have h : ntakes ⟨s, a, b, c, x, y, z, d⟩ p q r = false := by
        rw [← Bool.not_eq_true]
        intro h
        unfold ntakes at h
        simp only [Bool.and_eq_true] at h
        exact hI (hin h.2.1 h.2.2.1 h.2.2.2)
      unfold nscore
      rw [h]
      simp
end Go.Proofs.Ytjpnkecfoealoaa
