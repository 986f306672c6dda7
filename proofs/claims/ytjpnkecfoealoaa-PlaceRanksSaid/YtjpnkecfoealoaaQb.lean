import Derived.Test.YtjpnkecfoealoaaQa
namespace Go.Proofs.Ytjpnkecfoealoaa
set_option maxRecDepth 20000
open Go.RowKit
open Vc (I64 fitB RetBelow outV vecV shA shV)
set_option linter.unusedVariables false

/-- what filled answers -/
def flX (n : Nd) (p q r : Int) : Int := if ntakes n p q r then n.x + p else 0
def flY (n : Nd) (p q r : Int) : Int := if ntakes n p q r then n.y + q else 0
def flZ (n : Nd) (p q r : Int) : Int := if ntakes n p q r then n.z + r else 0
def flV (n : Nd) (p q r : Int) : Value := .tuple #[.agg #[.int .i64 (flX n p q r), .int .i64 (flY n p q r), .int .i64 (flZ n p q r)], .bool (ntakes n p q r)]
theorem fl_no {n : Nd} {p q r : Int} (h : ntakes n p q r = false) : flV n p q r = .tuple #[.agg #[.int .i64 0, .int .i64 0, .int .i64 0], .bool false] := by
  unfold flV flX flY flZ; rw [h]; rfl
theorem fl_yes {n : Nd} {p q r : Int} (h : ntakes n p q r = true) : flV n p q r = .tuple #[.agg #[.int .i64 (n.x + p), .int .i64 (n.y + q), .int .i64 (n.z + r)], .bool true] := by
  unfold flV flX flY flZ; rw [h]; rfl
theorem takes_i64 {n : Nd} (ok : Nok n) {p q r : Int} (hv : fitB 0 0 0 p q r = true) (hm : nmay n = true) (h : fitB (n.x + p) (n.y + q) (n.z + r) n.a n.b n.c = true) : I64 (n.x + p) ∧ I64 (n.y + q) ∧ I64 (n.z + r) := by
  unfold nmay at hm
  simp only [fitB, Bool.and_eq_true, decide_eq_true_eq] at hv hm h
  have := ok.a.2; have := ok.b.2; have := ok.c.2
  unfold I64
  omega

theorem below3 (w : World) (o1 o2 o3 : Obj) : Below w.heap.size w (((w.alloc o1).alloc o2).alloc o3) :=
  (((Below.refl w.heap.size w).alloc (Nat.le_refl _) o1).alloc (by rw [World.size_alloc]; omega) o2).alloc (by rw [World.size_alloc, World.size_alloc]; omega) o3
theorem filled_drained (s : List UInt8) (a b c x y z p q r : Int) (w : World) : Calls Try.prog 31 #[nodeV ⟨s, a, b, c, x, y, z, true⟩, .agg #[.int .i64 p, .int .i64 q, .int .i64 r]] w (RetBelow (flV ⟨s, a, b, c, x, y, z, true⟩ p q r) w) := by
  rw [fl_no rfl]
  have B := Lib.hid (below3 w (.cells #[.string (Nm.str s), .int .i64 a, .int .i64 b, .int .i64 c, .int .i64 x, .int .i64 y, .int .i64 z, .bool true] 33) (.cells #[.int .i64 p, .int .i64 q, .int .i64 r] 24) (.cells #[.int .i64 0, .int .i64 0, .int .i64 0] 24))
  have hz := Vc.build23_0
  unfold nodeV nodeC
  go_enter Try.func31, Try.ntmps31
  go_wp2_with fail
  exact bodyPost_ret (v := .tuple #[.agg #[.int .i64 0, .int .i64 0, .int .i64 0], .bool false]) (by simp [results, Try.results31, go_sem]) rfl
    ⟨rfl, B.out⟩
theorem filled_core (s : List UInt8) (a b c x y z p q r : Int) (w : World) (m1 m2 m4 : Bool) (X Y Z E : Int)
    (k1 : Hid (∀ W : World, Calls Try.prog 20 #[.agg #[.int .i64 p, .int .i64 q, .int .i64 r]] W (RetBelow (.bool m1) W)))
    (k2 : Hid (∀ W : World, Calls Try.prog 15 #[.agg #[.string (Nm.str s), .int .i64 a, .int .i64 b, .int .i64 c, .int .i64 x, .int .i64 y, .int .i64 z, .bool false]] W (RetBelow (.bool m2) W)))
    (k3 : Hid (∀ W : World, Calls Try.prog 21 #[.agg #[.int .i64 x, .int .i64 y, .int .i64 z], .agg #[.int .i64 p, .int .i64 q, .int .i64 r]] W (RetBelow (vecV X Y Z E) W)))
    (k4' : Hid (E = 0 → ∀ W : World, Calls Try.prog 22 #[.agg #[.int .i64 X, .int .i64 Y, .int .i64 Z], .agg #[.int .i64 a, .int .i64 b, .int .i64 c]] W (RetBelow (.bool m4) W)))
    (hE : Hid (E = 0 ∨ E = 6)) (U : Value) (hU : Hid (U = if m1 && (m2 && ((E == 0) && m4)) then .tuple #[.agg #[.int .i64 X, .int .i64 Y, .int .i64 Z], .bool true] else .tuple #[.agg #[.int .i64 0, .int .i64 0, .int .i64 0], .bool false])) :
    Calls Try.prog 31 #[nodeV ⟨s, a, b, c, x, y, z, false⟩, .agg #[.int .i64 p, .int .i64 q, .int .i64 r]] w
      (RetBelow U w) := by
  have K := (((NK.new w ⟨s, a, b, c, x, y, z, false⟩).alloc (.cells #[.int .i64 p, .int .i64 q, .int .i64 r] 24)).alloc (.cells #[.int .i64 0, .int .i64 0, .int .i64 0] 24))
  have V := (Vc.BK.new (w.alloc (.cells #[.string (Nm.str s), .int .i64 a, .int .i64 b, .int .i64 c, .int .i64 x, .int .i64 y, .int .i64 z, .bool false] 33)) p q r).alloc (.cells #[.int .i64 0, .int .i64 0, .int .i64 0] 24)
  have R := Vc.BK.new ((w.alloc (.cells #[.string (Nm.str s), .int .i64 a, .int .i64 b, .int .i64 c, .int .i64 x, .int .i64 y, .int .i64 z, .bool false] 33)).alloc (.cells #[.int .i64 p, .int .i64 q, .int .i64 r] 24)) 0 0 0
  have hsz : (((w.alloc (.cells #[.string (Nm.str s), .int .i64 a, .int .i64 b, .int .i64 c, .int .i64 x, .int .i64 y, .int .i64 z, .bool false] 33)).alloc (.cells #[.int .i64 p, .int .i64 q, .int .i64 r] 24)).alloc (.cells #[.int .i64 0, .int .i64 0, .int .i64 0] 24)).heap.size = w.heap.size + 3 := by simp
  have B := below3 w (.cells #[.string (Nm.str s), .int .i64 a, .int .i64 b, .int .i64 c, .int .i64 x, .int .i64 y, .int .i64 z, .bool false] 33) (.cells #[.int .i64 p, .int .i64 q, .int .i64 r] 24) (.cells #[.int .i64 0, .int .i64 0, .int .i64 0] 24)
  have hz := Vc.build23_0
  simp only [World.size_alloc] at V R
  unfold nodeV
  unfold nodeC at K ⊢
  go_enter Try.func31, Try.ntmps31
  go_wp2_with fail
  generalize (((w.alloc (.cells #[.string (Nm.str s), .int .i64 a, .int .i64 b, .int .i64 c, .int .i64 x, .int .i64 y, .int .i64 z, .bool false] 33)).alloc (.cells #[.int .i64 p, .int .i64 q, .int .i64 r] 24)).alloc (.cells #[.int .i64 0, .int .i64 0, .int .i64 0] 24)) = W0 at *
  have HC : ∀ W : World, Below W0.heap.size W0 W → NC W w.heap.size ⟨s, a, b, c, x, y, z, false⟩ := fun W h => NK.cells (NK.on (n := ⟨s, a, b, c, x, y, z, false⟩) K h (by omega))
  have HC := Lib.hid HC
  have HV : ∀ W : World, Below W0.heap.size W0 W → Vc.BK W (w.heap.size + 1) p q r := fun W h => V.on h (by omega)
  have HV := Lib.hid HV
  have HR : ∀ W : World, Below W0.heap.size W0 W → Vc.BK W (w.heap.size + 1 + 1) 0 0 0 := fun W h => R.on h (by omega)
  have HR := Lib.hid HR
  have B := Lib.hid B
  have SZ := Lib.hid hsz
  clear K V R hsz
  have B0 : Hid (Below W0.heap.size W0 W0) := Lib.hid (Below.refl _ _)
  obtain ⟨c0, c1, c2, c3, c4, c5, c6, c7⟩ := HC.out _ B0.out
  obtain ⟨v0, v1, v2⟩ := (HV.out _ B0.out).c3
  unfold vecV at k3
  cases m1 with
  | false =>
    go_wp2_with (go_at_call 20; (with_reducible refine (k1.out _).mono ?_); rintro e w1 ⟨rfl, hb⟩; have B1 := Lib.hid (B0.out.trans (hb.mono B0.out.size)); clear hb; obtain ⟨c0, c1, c2, c3, c4, c5, c6, c7⟩ := HC.out _ B1.out; obtain ⟨v0, v1, v2⟩ := (HV.out _ B1.out).c3; obtain ⟨d0, d1, d2⟩ := (HR.out _ B1.out).c3; have f0 := (HR.out _ B1.out).f0 0; have f1 := (HR.out _ B1.out).f0 1; have f2 := (HR.out _ B1.out).f0 2)
    exact bodyPost_ret (v := .tuple #[.agg #[.int .i64 0, .int .i64 0, .int .i64 0], .bool false]) (by simp [results, Try.results31, go_sem, d0, d1, d2]) rfl
      ⟨by rw [hU.out]; rfl, (((B.out.trans (B1.out.mono (by have := SZ.out; omega))).setCell (by show _ ≤ w.heap.size + 1 + 1; omega) _).setCell (by show _ ≤ w.heap.size + 1 + 1; omega) _).setCell (by show _ ≤ w.heap.size + 1 + 1; omega) _⟩
  | true =>
  cases m2 with
  | false =>
    go_wp2_with (first | (go_at_call 20; (with_reducible refine (k1.out _).mono ?_); rintro e w1 ⟨rfl, hb⟩; have B1 := Lib.hid (B0.out.trans (hb.mono B0.out.size)); clear hb; obtain ⟨c0, c1, c2, c3, c4, c5, c6, c7⟩ := HC.out _ B1.out; obtain ⟨v0, v1, v2⟩ := (HV.out _ B1.out).c3; obtain ⟨d0, d1, d2⟩ := (HR.out _ B1.out).c3; have f0 := (HR.out _ B1.out).f0 0; have f1 := (HR.out _ B1.out).f0 1; have f2 := (HR.out _ B1.out).f0 2) | (go_at_call 15; (with_reducible refine (k2.out _).mono ?_); rintro e w2 ⟨rfl, hb⟩; have B2 := Lib.hid (B1.out.trans (hb.mono B1.out.size)); clear hb; obtain ⟨c0, c1, c2, c3, c4, c5, c6, c7⟩ := HC.out _ B2.out; obtain ⟨v0, v1, v2⟩ := (HV.out _ B2.out).c3; obtain ⟨d0, d1, d2⟩ := (HR.out _ B2.out).c3; have f0 := (HR.out _ B2.out).f0 0; have f1 := (HR.out _ B2.out).f0 1; have f2 := (HR.out _ B2.out).f0 2))
    exact bodyPost_ret (v := .tuple #[.agg #[.int .i64 0, .int .i64 0, .int .i64 0], .bool false]) (by simp [results, Try.results31, go_sem, d0, d1, d2]) rfl
      ⟨by rw [hU.out]; rfl, (((B.out.trans (B2.out.mono (by have := SZ.out; omega))).setCell (by show _ ≤ w.heap.size + 1 + 1; omega) _).setCell (by show _ ≤ w.heap.size + 1 + 1; omega) _).setCell (by show _ ≤ w.heap.size + 1 + 1; omega) _⟩
  | true =>
  rcases hE.out with rfl | rfl
  · have k4 := Lib.hid (k4'.out rfl)
    cases m4 with
    | false =>
      go_wp2_with (first | (go_at_call 20; (with_reducible refine (k1.out _).mono ?_); rintro e w1 ⟨rfl, hb⟩; have B1 := Lib.hid (B0.out.trans (hb.mono B0.out.size)); clear hb; obtain ⟨c0, c1, c2, c3, c4, c5, c6, c7⟩ := HC.out _ B1.out; obtain ⟨v0, v1, v2⟩ := (HV.out _ B1.out).c3; obtain ⟨d0, d1, d2⟩ := (HR.out _ B1.out).c3; have f0 := (HR.out _ B1.out).f0 0; have f1 := (HR.out _ B1.out).f0 1; have f2 := (HR.out _ B1.out).f0 2) | (go_at_call 15; (with_reducible refine (k2.out _).mono ?_); rintro e w2 ⟨rfl, hb⟩; have B2 := Lib.hid (B1.out.trans (hb.mono B1.out.size)); clear hb; obtain ⟨c0, c1, c2, c3, c4, c5, c6, c7⟩ := HC.out _ B2.out; obtain ⟨v0, v1, v2⟩ := (HV.out _ B2.out).c3; obtain ⟨d0, d1, d2⟩ := (HR.out _ B2.out).c3; have f0 := (HR.out _ B2.out).f0 0; have f1 := (HR.out _ B2.out).f0 1; have f2 := (HR.out _ B2.out).f0 2) | (go_at_call 21; (with_reducible refine (k3.out _).mono ?_); rintro e w3 ⟨rfl, hb⟩; have B3 := Lib.hid (B2.out.trans (hb.mono B2.out.size)); clear hb; have B4 := Lib.hid (B3.out.alloc B3.out.size (.cells #[.int .i64 X, .int .i64 Y, .int .i64 Z] 24)); have N4 := Lib.hid (Vc.BK.new w3 X Y Z); obtain ⟨c0, c1, c2, c3, c4, c5, c6, c7⟩ := HC.out _ B4.out; obtain ⟨v0, v1, v2⟩ := (HV.out _ B4.out).c3; obtain ⟨d0, d1, d2⟩ := (HR.out _ B4.out).c3; have f0 := (HR.out _ B4.out).f0 0; have f1 := (HR.out _ B4.out).f0 1; have f2 := (HR.out _ B4.out).f0 2) | (go_at_call 22; (with_reducible refine (k4.out _).mono ?_); rintro e w5 ⟨rfl, hb⟩; have B5 := Lib.hid (B4.out.trans (hb.mono B4.out.size)); have N5 := N4.out.on hb N4.out.lt; clear hb; obtain ⟨c0, c1, c2, c3, c4, c5, c6, c7⟩ := HC.out _ B5.out; obtain ⟨v0, v1, v2⟩ := (HV.out _ B5.out).c3; obtain ⟨d0, d1, d2⟩ := (HR.out _ B5.out).c3; have f0 := (HR.out _ B5.out).f0 0; have f1 := (HR.out _ B5.out).f0 1; have f2 := (HR.out _ B5.out).f0 2; obtain ⟨n0, n1, n2⟩ := N5.c3))
      exact bodyPost_ret (v := .tuple #[.agg #[.int .i64 0, .int .i64 0, .int .i64 0], .bool false]) (by simp [results, Try.results31, go_sem, d0, d1, d2]) rfl
        ⟨by rw [hU.out]; rfl, (((B.out.trans (B5.out.mono (by have := SZ.out; omega))).setCell (by show _ ≤ w.heap.size + 1 + 1; omega) _).setCell (by show _ ≤ w.heap.size + 1 + 1; omega) _).setCell (by show _ ≤ w.heap.size + 1 + 1; omega) _⟩
    | true =>
      go_wp2_with (first | (go_at_call 20; (with_reducible refine (k1.out _).mono ?_); rintro e w1 ⟨rfl, hb⟩; have B1 := Lib.hid (B0.out.trans (hb.mono B0.out.size)); clear hb; obtain ⟨c0, c1, c2, c3, c4, c5, c6, c7⟩ := HC.out _ B1.out; obtain ⟨v0, v1, v2⟩ := (HV.out _ B1.out).c3; obtain ⟨d0, d1, d2⟩ := (HR.out _ B1.out).c3; have f0 := (HR.out _ B1.out).f0 0; have f1 := (HR.out _ B1.out).f0 1; have f2 := (HR.out _ B1.out).f0 2) | (go_at_call 15; (with_reducible refine (k2.out _).mono ?_); rintro e w2 ⟨rfl, hb⟩; have B2 := Lib.hid (B1.out.trans (hb.mono B1.out.size)); clear hb; obtain ⟨c0, c1, c2, c3, c4, c5, c6, c7⟩ := HC.out _ B2.out; obtain ⟨v0, v1, v2⟩ := (HV.out _ B2.out).c3; obtain ⟨d0, d1, d2⟩ := (HR.out _ B2.out).c3; have f0 := (HR.out _ B2.out).f0 0; have f1 := (HR.out _ B2.out).f0 1; have f2 := (HR.out _ B2.out).f0 2) | (go_at_call 21; (with_reducible refine (k3.out _).mono ?_); rintro e w3 ⟨rfl, hb⟩; have B3 := Lib.hid (B2.out.trans (hb.mono B2.out.size)); clear hb; have B4 := Lib.hid (B3.out.alloc B3.out.size (.cells #[.int .i64 X, .int .i64 Y, .int .i64 Z] 24)); have N4 := Lib.hid (Vc.BK.new w3 X Y Z); obtain ⟨c0, c1, c2, c3, c4, c5, c6, c7⟩ := HC.out _ B4.out; obtain ⟨v0, v1, v2⟩ := (HV.out _ B4.out).c3; obtain ⟨d0, d1, d2⟩ := (HR.out _ B4.out).c3; have f0 := (HR.out _ B4.out).f0 0; have f1 := (HR.out _ B4.out).f0 1; have f2 := (HR.out _ B4.out).f0 2) | (go_at_call 22; (with_reducible refine (k4.out _).mono ?_); rintro e w5 ⟨rfl, hb⟩; have B5 := Lib.hid (B4.out.trans (hb.mono B4.out.size)); have N5 := N4.out.on hb N4.out.lt; clear hb; obtain ⟨c0, c1, c2, c3, c4, c5, c6, c7⟩ := HC.out _ B5.out; obtain ⟨v0, v1, v2⟩ := (HV.out _ B5.out).c3; obtain ⟨d0, d1, d2⟩ := (HR.out _ B5.out).c3; have f0 := (HR.out _ B5.out).f0 0; have f1 := (HR.out _ B5.out).f0 1; have f2 := (HR.out _ B5.out).f0 2; obtain ⟨n0, n1, n2⟩ := N5.c3))
      exact bodyPost_ret (v := .tuple #[.agg #[.int .i64 X, .int .i64 Y, .int .i64 Z], .bool true]) (by simp [results, Try.results31, go_sem, d0, d1, d2]) rfl
        ⟨by rw [hU.out]; rfl, (((B.out.trans (B5.out.mono (by have := SZ.out; omega))).setCell (by show _ ≤ w.heap.size + 1 + 1; omega) _).setCell (by show _ ≤ w.heap.size + 1 + 1; omega) _).setCell (by show _ ≤ w.heap.size + 1 + 1; omega) _⟩
  · go_wp2_with (first | (go_at_call 20; (with_reducible refine (k1.out _).mono ?_); rintro e w1 ⟨rfl, hb⟩; have B1 := Lib.hid (B0.out.trans (hb.mono B0.out.size)); clear hb; obtain ⟨c0, c1, c2, c3, c4, c5, c6, c7⟩ := HC.out _ B1.out; obtain ⟨v0, v1, v2⟩ := (HV.out _ B1.out).c3; obtain ⟨d0, d1, d2⟩ := (HR.out _ B1.out).c3; have f0 := (HR.out _ B1.out).f0 0; have f1 := (HR.out _ B1.out).f0 1; have f2 := (HR.out _ B1.out).f0 2) | (go_at_call 15; (with_reducible refine (k2.out _).mono ?_); rintro e w2 ⟨rfl, hb⟩; have B2 := Lib.hid (B1.out.trans (hb.mono B1.out.size)); clear hb; obtain ⟨c0, c1, c2, c3, c4, c5, c6, c7⟩ := HC.out _ B2.out; obtain ⟨v0, v1, v2⟩ := (HV.out _ B2.out).c3; obtain ⟨d0, d1, d2⟩ := (HR.out _ B2.out).c3; have f0 := (HR.out _ B2.out).f0 0; have f1 := (HR.out _ B2.out).f0 1; have f2 := (HR.out _ B2.out).f0 2) | (go_at_call 21; (with_reducible refine (k3.out _).mono ?_); rintro e w3 ⟨rfl, hb⟩; have B3 := Lib.hid (B2.out.trans (hb.mono B2.out.size)); clear hb; have B4 := Lib.hid (B3.out.alloc B3.out.size (.cells #[.int .i64 X, .int .i64 Y, .int .i64 Z] 24)); have N4 := Lib.hid (Vc.BK.new w3 X Y Z); obtain ⟨c0, c1, c2, c3, c4, c5, c6, c7⟩ := HC.out _ B4.out; obtain ⟨v0, v1, v2⟩ := (HV.out _ B4.out).c3; obtain ⟨d0, d1, d2⟩ := (HR.out _ B4.out).c3; have f0 := (HR.out _ B4.out).f0 0; have f1 := (HR.out _ B4.out).f0 1; have f2 := (HR.out _ B4.out).f0 2))
    exact bodyPost_ret (v := .tuple #[.agg #[.int .i64 0, .int .i64 0, .int .i64 0], .bool false]) (by simp [results, Try.results31, go_sem, d0, d1, d2]) rfl
      ⟨by rw [hU.out]; rfl, (((B.out.trans (B4.out.mono (by have := SZ.out; omega))).setCell (by show _ ≤ w.heap.size + 1 + 1; omega) _).setCell (by show _ ≤ w.heap.size + 1 + 1; omega) _).setCell (by show _ ≤ w.heap.size + 1 + 1; omega) _⟩
theorem filled_any (n : Nd) (p q r : Int) (w : World) (ok : Nok n) (bp : I64 p) (bq : I64 q) (br : I64 r) : Calls Try.prog 31 #[nodeV n, .agg #[.int .i64 p, .int .i64 q, .int .i64 r]] w (RetBelow (flV n p q r) w) := by
  obtain ⟨s, a, b, c, x, y, z, d⟩ := n
  cases d with
  | true => exact filled_drained s a b c x y z p q r w
  | false =>
    have hin := fun h1 h2 h3 => takes_i64 (p := p) (q := q) (r := r) ok h1 h2 h3
    by_cases hI : I64 (x + p) ∧ I64 (y + q) ∧ I64 (z + r)
    · refine filled_core s a b c x y z p q r w (fitB 0 0 0 p q r) (nmay ⟨s, a, b, c, x, y, z, false⟩) (fitB (x + p) (y + q) (z + r) a b c) (x + p) (y + q) (z + r) 0 (Lib.hid fun W => Vc.may_any p q r W) (Lib.hid fun W => pmay_any _ W ok.s) (Lib.hid fun W => ?_) (Lib.hid fun _ W => Vc.fits_any _ _ _ _ _ _ W) (Lib.hid (.inl rfl)) _ (Lib.hid ?_)
      · have := Vc.add_ret x y z p q r W ok.x ok.y ok.z bp bq br
        unfold outV at this
        rwa [if_pos hI] at this
      · cases h : ntakes ⟨s, a, b, c, x, y, z, false⟩ p q r with
        | true =>
          rw [fl_yes h]
          unfold ntakes at h
          simp only [Bool.not_false, Bool.true_and] at h
          simp only [beq_self_eq_true, Bool.true_and, h, if_true]
        | false =>
          rw [fl_no h]
          unfold ntakes at h
          simp only [Bool.not_false, Bool.true_and] at h
          simp only [beq_self_eq_true, Bool.true_and, h]
          rfl
    · refine filled_core s a b c x y z p q r w (fitB 0 0 0 p q r) (nmay ⟨s, a, b, c, x, y, z, false⟩) false 0 0 0 6 (Lib.hid fun W => Vc.may_any p q r W) (Lib.hid fun W => pmay_any _ W ok.s) (Lib.hid fun W => ?_) (Lib.hid fun h => absurd h (by decide)) (Lib.hid (.inr rfl)) _ (Lib.hid ?_)
      · have := Vc.add_ret x y z p q r W ok.x ok.y ok.z bp bq br
        unfold outV at this
        rwa [if_neg hI] at this
      · have h : ntakes ⟨s, a, b, c, x, y, z, false⟩ p q r = false := by
          rw [← Bool.not_eq_true]
          intro h
          unfold ntakes at h
          simp only [Bool.and_eq_true] at h
          exact hI (hin h.2.1 h.2.2.1 h.2.2.2)
        rw [fl_no h]
        simp
theorem below2 (w : World) (o1 o2 : Obj) : Below w.heap.size w ((w.alloc o1).alloc o2) :=
  ((Below.refl w.heap.size w).alloc (Nat.le_refl _) o1).alloc (by rw [World.size_alloc]; omega) o2
theorem takes_core (s : List UInt8) (a b c x y z p q r X Y Z : Int) (d t : Bool) (w : World)
    (k1 : ∀ W : World, Calls Try.prog 31 #[nodeV ⟨s, a, b, c, x, y, z, d⟩, .agg #[.int .i64 p, .int .i64 q, .int .i64 r]] W (RetBelow (.tuple #[.agg #[.int .i64 X, .int .i64 Y, .int .i64 Z], .bool t]) W)) :
    Calls Try.prog 19 #[nodeV ⟨s, a, b, c, x, y, z, d⟩, .agg #[.int .i64 p, .int .i64 q, .int .i64 r]] w (RetBelow (.bool t) w) := by
  have K := (NK.new w ⟨s, a, b, c, x, y, z, d⟩).alloc (.cells #[.int .i64 p, .int .i64 q, .int .i64 r] 24)
  have V := Vc.BK.new (w.alloc (.cells #[.string (Nm.str s), .int .i64 a, .int .i64 b, .int .i64 c, .int .i64 x, .int .i64 y, .int .i64 z, .bool d] 33)) p q r
  have hsz : ((w.alloc (.cells #[.string (Nm.str s), .int .i64 a, .int .i64 b, .int .i64 c, .int .i64 x, .int .i64 y, .int .i64 z, .bool d] 33)).alloc (.cells #[.int .i64 p, .int .i64 q, .int .i64 r] 24)).heap.size = w.heap.size + 2 := by simp
  have B := below2 w (.cells #[.string (Nm.str s), .int .i64 a, .int .i64 b, .int .i64 c, .int .i64 x, .int .i64 y, .int .i64 z, .bool d] 33) (.cells #[.int .i64 p, .int .i64 q, .int .i64 r] 24)
  simp only [World.size_alloc] at V
  unfold nodeV at k1 ⊢
  unfold nodeC at K k1 ⊢
  go_enter Try.func19, Try.ntmps19
  go_wp2_with fail
  generalize ((w.alloc (.cells #[.string (Nm.str s), .int .i64 a, .int .i64 b, .int .i64 c, .int .i64 x, .int .i64 y, .int .i64 z, .bool d] 33)).alloc (.cells #[.int .i64 p, .int .i64 q, .int .i64 r] 24)) = W0 at *
  have HC : ∀ W : World, Below W0.heap.size W0 W → NC W w.heap.size ⟨s, a, b, c, x, y, z, d⟩ := fun W h => NK.cells (NK.on (n := ⟨s, a, b, c, x, y, z, d⟩) K h (by omega))
  have HC := Lib.hid HC
  have B := Lib.hid B
  have SZ := Lib.hid hsz
  obtain ⟨c0, c1, c2, c3, c4, c5, c6, c7⟩ := HC.out _ (Below.refl _ _)
  obtain ⟨v0, v1, v2⟩ := V.c3
  clear K V hsz
  go_wp2_with (go_at_call 31; (with_reducible refine (k1 _).mono ?_); rintro e w1 ⟨rfl, hb⟩; have B1 := Lib.hid hb; clear hb)
  go_ret
  exact ⟨rfl, (B.out.trans (B1.out.mono (by have := SZ.out; omega))).alloc (Nat.le_trans B.out.size B1.out.size) _⟩
theorem score_no (s : List UInt8) (a b c x y z p q r X Y Z : Int) (d : Bool) (w : World)
    (k1 : ∀ W : World, Calls Try.prog 31 #[nodeV ⟨s, a, b, c, x, y, z, d⟩, .agg #[.int .i64 p, .int .i64 q, .int .i64 r]] W (RetBelow (.tuple #[.agg #[.int .i64 X, .int .i64 Y, .int .i64 Z], .bool false]) W)) :
    Calls Try.prog 17 #[nodeV ⟨s, a, b, c, x, y, z, d⟩, .agg #[.int .i64 p, .int .i64 q, .int .i64 r]] w (RetBelow (.int .i64 (-1)) w) := by
  have K := (NK.new w ⟨s, a, b, c, x, y, z, d⟩).alloc (.cells #[.int .i64 p, .int .i64 q, .int .i64 r] 24)
  have V := Vc.BK.new (w.alloc (.cells #[.string (Nm.str s), .int .i64 a, .int .i64 b, .int .i64 c, .int .i64 x, .int .i64 y, .int .i64 z, .bool d] 33)) p q r
  have hsz : ((w.alloc (.cells #[.string (Nm.str s), .int .i64 a, .int .i64 b, .int .i64 c, .int .i64 x, .int .i64 y, .int .i64 z, .bool d] 33)).alloc (.cells #[.int .i64 p, .int .i64 q, .int .i64 r] 24)).heap.size = w.heap.size + 2 := by simp
  have B := below2 w (.cells #[.string (Nm.str s), .int .i64 a, .int .i64 b, .int .i64 c, .int .i64 x, .int .i64 y, .int .i64 z, .bool d] 33) (.cells #[.int .i64 p, .int .i64 q, .int .i64 r] 24)
  simp only [World.size_alloc] at V
  unfold nodeV at k1 ⊢
  unfold nodeC at K k1 ⊢
  go_enter Try.func17, Try.ntmps17
  go_wp2_with fail
  generalize ((w.alloc (.cells #[.string (Nm.str s), .int .i64 a, .int .i64 b, .int .i64 c, .int .i64 x, .int .i64 y, .int .i64 z, .bool d] 33)).alloc (.cells #[.int .i64 p, .int .i64 q, .int .i64 r] 24)) = W0 at *
  have HC : ∀ W : World, Below W0.heap.size W0 W → NC W w.heap.size ⟨s, a, b, c, x, y, z, d⟩ := fun W h => NK.cells (NK.on (n := ⟨s, a, b, c, x, y, z, d⟩) K h (by omega))
  have HC := Lib.hid HC
  have B := Lib.hid B
  have SZ := Lib.hid hsz
  obtain ⟨c0, c1, c2, c3, c4, c5, c6, c7⟩ := HC.out _ (Below.refl _ _)
  obtain ⟨v0, v1, v2⟩ := V.c3
  clear K V hsz
  go_wp2_with (go_at_call 31; (with_reducible refine (k1 _).mono ?_); rintro e w1 ⟨rfl, hb⟩; have B1 := Lib.hid hb; clear hb)
  go_ret
  exact ⟨rfl, (B.out.trans (B1.out.mono (by have := SZ.out; omega))).alloc (Nat.le_trans B.out.size B1.out.size) _⟩
theorem score_yes (s : List UInt8) (a b c x y z p q r X Y Z S : Int) (d : Bool) (w : World)
    (k1 : ∀ W : World, Calls Try.prog 31 #[nodeV ⟨s, a, b, c, x, y, z, d⟩, .agg #[.int .i64 p, .int .i64 q, .int .i64 r]] W (RetBelow (.tuple #[.agg #[.int .i64 X, .int .i64 Y, .int .i64 Z], .bool true]) W))
    (k2 : ∀ W : World, Calls Try.prog 32 #[.agg #[.int .i64 X, .int .i64 Y, .int .i64 Z], .agg #[.int .i64 a, .int .i64 b, .int .i64 c]] W (RetBelow (.int .i64 S) W)) :
    Calls Try.prog 17 #[nodeV ⟨s, a, b, c, x, y, z, d⟩, .agg #[.int .i64 p, .int .i64 q, .int .i64 r]] w (RetBelow (.int .i64 S) w) := by
  have K := (NK.new w ⟨s, a, b, c, x, y, z, d⟩).alloc (.cells #[.int .i64 p, .int .i64 q, .int .i64 r] 24)
  have V := Vc.BK.new (w.alloc (.cells #[.string (Nm.str s), .int .i64 a, .int .i64 b, .int .i64 c, .int .i64 x, .int .i64 y, .int .i64 z, .bool d] 33)) p q r
  have hsz : ((w.alloc (.cells #[.string (Nm.str s), .int .i64 a, .int .i64 b, .int .i64 c, .int .i64 x, .int .i64 y, .int .i64 z, .bool d] 33)).alloc (.cells #[.int .i64 p, .int .i64 q, .int .i64 r] 24)).heap.size = w.heap.size + 2 := by simp
  have B := below2 w (.cells #[.string (Nm.str s), .int .i64 a, .int .i64 b, .int .i64 c, .int .i64 x, .int .i64 y, .int .i64 z, .bool d] 33) (.cells #[.int .i64 p, .int .i64 q, .int .i64 r] 24)
  simp only [World.size_alloc] at V
  unfold nodeV at k1 ⊢
  unfold nodeC at K k1 ⊢
  go_enter Try.func17, Try.ntmps17
  go_wp2_with fail
  generalize ((w.alloc (.cells #[.string (Nm.str s), .int .i64 a, .int .i64 b, .int .i64 c, .int .i64 x, .int .i64 y, .int .i64 z, .bool d] 33)).alloc (.cells #[.int .i64 p, .int .i64 q, .int .i64 r] 24)) = W0 at *
  have HC : ∀ W : World, Below W0.heap.size W0 W → NC W w.heap.size ⟨s, a, b, c, x, y, z, d⟩ := fun W h => NK.cells (NK.on (n := ⟨s, a, b, c, x, y, z, d⟩) K h (by omega))
  have HC := Lib.hid HC
  have B := Lib.hid B
  have SZ := Lib.hid hsz
  obtain ⟨c0, c1, c2, c3, c4, c5, c6, c7⟩ := HC.out _ (Below.refl _ _)
  obtain ⟨v0, v1, v2⟩ := V.c3
  clear K V hsz
  go_wp2_with (first | (go_at_call 31; (with_reducible refine (k1 _).mono ?_); rintro e w1 ⟨rfl, hb⟩; have B1 := Lib.hid hb; clear hb; have B2 := Lib.hid (B1.out.alloc B1.out.size (.cells #[.int .i64 X, .int .i64 Y, .int .i64 Z] 24)); obtain ⟨c0, c1, c2, c3, c4, c5, c6, c7⟩ := HC.out _ B2.out) | (go_at_call 32; (with_reducible refine (k2 _).mono ?_); rintro e w3 ⟨rfl, hb⟩; have B3 := Lib.hid (B2.out.trans (hb.mono B2.out.size)); clear hb))
  go_ret
  exact ⟨rfl, (B.out.trans (B3.out.mono (by have := SZ.out; omega)))⟩
theorem takes_any (n : Nd) (p q r : Int) (w : World) (ok : Nok n) (bp : I64 p) (bq : I64 q) (br : I64 r) : Calls Try.prog 19 #[nodeV n, .agg #[.int .i64 p, .int .i64 q, .int .i64 r]] w (RetBelow (.bool (ntakes n p q r)) w) := by
  obtain ⟨s, a, b, c, x, y, z, d⟩ := n
  exact takes_core s a b c x y z p q r _ _ _ d _ w fun W => filled_any _ p q r W ok bp bq br
theorem score_any (n : Nd) (p q r : Int) (w : World) (ok : Nok n) (bp : I64 p) (bq : I64 q) (br : I64 r) : Calls Try.prog 17 #[nodeV n, .agg #[.int .i64 p, .int .i64 q, .int .i64 r]] w (RetBelow (.int .i64 (nscore n p q r)) w) := by
  have kf := fun W => filled_any n p q r W ok bp bq br
  unfold nscore
  cases h : ntakes n p q r with
  | false =>
    rw [fl_no h] at kf
    obtain ⟨s, a, b, c, x, y, z, d⟩ := n
    exact score_no s a b c x y z p q r _ _ _ d w kf
  | true =>
    have ht := h
    unfold ntakes nmay at ht
    simp only [Bool.and_eq_true] at ht
    have hI := takes_i64 (p := p) (q := q) (r := r) ok ht.2.1 (by unfold nmay; simp only [Bool.and_eq_true]; exact ht.2.2.1) ht.2.2.2
    have hm : fitB 0 0 0 (n.x + p) (n.y + q) (n.z + r) = true := by
      have h1 := ht.2.1
      have h2 := ht.2.2.1.2.2.1
      simp only [fitB, Bool.and_eq_true, decide_eq_true_eq] at h1 h2 ⊢
      omega
    have hS := fun W => Vc.share_any (n.x + p) (n.y + q) (n.z + r) n.a n.b n.c W hI.1 hI.2.1 hI.2.2 ok.a ok.b ok.c
    unfold shA at hS
    rw [hm, ht.2.2.1.2.1] at hS
    simp only [Bool.and_self, if_true] at hS ⊢
    rw [fl_yes h] at kf
    obtain ⟨s, a, b, c, x, y, z, d⟩ := n
    exact score_yes s a b c x y z p q r _ _ _ _ d w kf hS
end Go.Proofs.Ytjpnkecfoealoaa
