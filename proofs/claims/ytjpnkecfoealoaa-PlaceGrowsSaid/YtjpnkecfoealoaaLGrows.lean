import Derived.Test.YtjpnkecfoealoaaQg
import Derived.Test.YtjpnkecfoealoaaVPs
namespace Go.Proofs.Ytjpnkecfoealoaa
set_option maxRecDepth 20000
open Go.RowKit
open Go.Proofs.Ytjpnkecfoealoaa.Vc (I64 fitB RetBelow)
set_option linter.unusedVariables false

theorem mx_mono {x y x' y' : Int} (h : x ≤ x') (k : y ≤ y') : Vc.mx x y ≤ Vc.mx x' y' := by unfold Vc.mx; split <;> split <;> omega
theorem grows_plain {n : Nd} {p q r t u v : Int} (h1 : fitB p q r t u v = true) (h2 : ntakes n t u v = true) (h3 : fitB 0 0 0 p q r = true) : ntakes n p q r = true ∧ nscore n p q r ≤ nscore n t u v := by
  have h20 := h2
  unfold ntakes at h2
  simp only [Bool.and_eq_true, Bool.not_eq_true'] at h2
  have hm := h2.2.2.1
  have hm0 := hm
  unfold nmay at hm
  simp only [fitB, Bool.and_eq_true, decide_eq_true_eq] at h1 h2 h3 hm
  have ht : ntakes n p q r = true := by
    unfold ntakes
    simp only [fitB, Bool.and_eq_true, Bool.not_eq_true', decide_eq_true_eq]
    exact ⟨h2.1, h3, hm0, by omega⟩
  refine ⟨ht, ?_⟩
  unfold nscore
  rw [if_pos ht, if_pos h20]
  unfold Vc.shV
  refine mx_mono (mx_mono (mx_mono (Int.le_refl _) ?_) ?_) ?_ <;> exact Vc.shr_mono _ _ _ (by omega) (by omega) (by omega)
theorem drained_plain (n : Nd) (h : n.d = true) (p q r : Int) : ntakes n p q r = false := by unfold ntakes; rw [h]; rfl

set_option maxHeartbeats 2000000 in
theorem grows_core (s : List UInt8) (a b c x y z p q r t u v s1 s2 : Int) (d f1 tw mv : Bool) (w : World)
    (k0 : Hid (∀ W : World, Calls Try.prog 9 #[] W (RetBelow (.bool true) W)))
    (k1 : Hid (∀ W : World, Calls Try.prog 19 #[.agg #[.string (Nm.str s), .int .i64 a, .int .i64 b, .int .i64 c, .int .i64 x, .int .i64 y, .int .i64 z, .bool true], .agg #[.int .i64 p, .int .i64 q, .int .i64 r]] W (RetBelow (.bool false) W)))
    (k2 : Hid (∀ W : World, Calls Try.prog 17 #[.agg #[.string (Nm.str s), .int .i64 a, .int .i64 b, .int .i64 c, .int .i64 x, .int .i64 y, .int .i64 z, .bool true], .agg #[.int .i64 p, .int .i64 q, .int .i64 r]] W (RetBelow (.int .i64 (-1)) W)))
    (k3 : Hid (∀ W : World, Calls Try.prog 22 #[.agg #[.int .i64 p, .int .i64 q, .int .i64 r], .agg #[.int .i64 t, .int .i64 u, .int .i64 v]] W (RetBelow (.bool f1) W)))
    (k4 : Hid (∀ W : World, Calls Try.prog 19 #[.agg #[.string (Nm.str s), .int .i64 a, .int .i64 b, .int .i64 c, .int .i64 x, .int .i64 y, .int .i64 z, .bool d], .agg #[.int .i64 t, .int .i64 u, .int .i64 v]] W (RetBelow (.bool tw) W)))
    (k5 : Hid (∀ W : World, Calls Try.prog 20 #[.agg #[.int .i64 p, .int .i64 q, .int .i64 r]] W (RetBelow (.bool mv) W)))
    (k6 : Hid (f1 = true → tw = true → mv = true → ∀ W : World, Calls Try.prog 19 #[.agg #[.string (Nm.str s), .int .i64 a, .int .i64 b, .int .i64 c, .int .i64 x, .int .i64 y, .int .i64 z, .bool d], .agg #[.int .i64 p, .int .i64 q, .int .i64 r]] W (RetBelow (.bool true) W)))
    (k7 : Hid (∀ W : World, Calls Try.prog 17 #[.agg #[.string (Nm.str s), .int .i64 a, .int .i64 b, .int .i64 c, .int .i64 x, .int .i64 y, .int .i64 z, .bool d], .agg #[.int .i64 p, .int .i64 q, .int .i64 r]] W (RetBelow (.int .i64 s1) W)))
    (k8 : Hid (∀ W : World, Calls Try.prog 17 #[.agg #[.string (Nm.str s), .int .i64 a, .int .i64 b, .int .i64 c, .int .i64 x, .int .i64 y, .int .i64 z, .bool d], .agg #[.int .i64 t, .int .i64 u, .int .i64 v]] W (RetBelow (.int .i64 s2) W)))
    (hle : Hid (f1 = true → tw = true → mv = true → s1 ≤ s2)) :
    Calls Try.prog 7 #[.agg #[.string (Nm.str s), .int .i64 a, .int .i64 b, .int .i64 c, .int .i64 x, .int .i64 y, .int .i64 z, .bool d], .agg #[.int .i64 p, .int .i64 q, .int .i64 r], .agg #[.int .i64 t, .int .i64 u, .int .i64 v]] w (RetBelow (.bool true) w) := by
  have K : NK (((w.alloc (.cells #[.string (Nm.str s), .int .i64 a, .int .i64 b, .int .i64 c, .int .i64 x, .int .i64 y, .int .i64 z, .bool d] 33)).alloc (.cells #[.int .i64 p, .int .i64 q, .int .i64 r] 24)).alloc (.cells #[.int .i64 t, .int .i64 u, .int .i64 v] 24)) w.heap.size ⟨s, a, b, c, x, y, z, d⟩ := ((NK.new w ⟨s, a, b, c, x, y, z, d⟩).alloc (.cells #[.int .i64 p, .int .i64 q, .int .i64 r] 24)).alloc (.cells #[.int .i64 t, .int .i64 u, .int .i64 v] 24)
  have V := (Vc.BK.new (w.alloc (.cells #[.string (Nm.str s), .int .i64 a, .int .i64 b, .int .i64 c, .int .i64 x, .int .i64 y, .int .i64 z, .bool d] 33)) p q r).alloc (.cells #[.int .i64 t, .int .i64 u, .int .i64 v] 24)
  have U := Vc.BK.new ((w.alloc (.cells #[.string (Nm.str s), .int .i64 a, .int .i64 b, .int .i64 c, .int .i64 x, .int .i64 y, .int .i64 z, .bool d] 33)).alloc (.cells #[.int .i64 p, .int .i64 q, .int .i64 r] 24)) t u v
  have hsz : (((w.alloc (.cells #[.string (Nm.str s), .int .i64 a, .int .i64 b, .int .i64 c, .int .i64 x, .int .i64 y, .int .i64 z, .bool d] 33)).alloc (.cells #[.int .i64 p, .int .i64 q, .int .i64 r] 24)).alloc (.cells #[.int .i64 t, .int .i64 u, .int .i64 v] 24)).heap.size = w.heap.size + 3 := by simp
  have B := below3 w (.cells #[.string (Nm.str s), .int .i64 a, .int .i64 b, .int .i64 c, .int .i64 x, .int .i64 y, .int .i64 z, .bool d] 33) (.cells #[.int .i64 p, .int .i64 q, .int .i64 r] 24) (.cells #[.int .i64 t, .int .i64 u, .int .i64 v] 24)
  simp only [World.size_alloc] at V U
  go_enter Try.func7, Try.ntmps7
  go_wp2_with fail
  generalize (((w.alloc (.cells #[.string (Nm.str s), .int .i64 a, .int .i64 b, .int .i64 c, .int .i64 x, .int .i64 y, .int .i64 z, .bool d] 33)).alloc (.cells #[.int .i64 p, .int .i64 q, .int .i64 r] 24)).alloc (.cells #[.int .i64 t, .int .i64 u, .int .i64 v] 24)) = W0 at *
  have HC : ∀ W : World, Below W0.heap.size W0 W → NC W w.heap.size ⟨s, a, b, c, x, y, z, d⟩ := fun W h => NK.cells (NK.on (n := ⟨s, a, b, c, x, y, z, d⟩) K h (by omega))
  have HC := Lib.hid HC
  have HV : ∀ W : World, Below W0.heap.size W0 W → Vc.BK W (w.heap.size + 1) p q r := fun W h => V.on h (by omega)
  have HV := Lib.hid HV
  have HU : ∀ W : World, Below W0.heap.size W0 W → Vc.BK W (w.heap.size + 1 + 1) t u v := fun W h => U.on h (by omega)
  have HU := Lib.hid HU
  have B := Lib.hid B
  have SZ := Lib.hid hsz
  clear K V U hsz
  refine (k0.out _).mono ?_
  rintro e w1 ⟨rfl, hb⟩
  have B1 := Lib.hid hb
  clear hb
  obtain ⟨c0, c1, c2, c3, c4, c5, c6, c7⟩ := HC.out _ B1.out
  obtain ⟨v0, v1, v2⟩ := (HV.out _ B1.out).c3
  obtain ⟨u0, u1, u2⟩ := (HU.out _ B1.out).c3
  have B2 := Lib.hid (B1.out.alloc B1.out.size (.cells #[.string (Nm.str s), .int .i64 a, .int .i64 b, .int .i64 c, .int .i64 x, .int .i64 y, .int .i64 z, .bool true] 33))
  have HD : ∀ W : World, Below (w1.alloc (.cells #[.string (Nm.str s), .int .i64 a, .int .i64 b, .int .i64 c, .int .i64 x, .int .i64 y, .int .i64 z, .bool true] 33)).heap.size (w1.alloc (.cells #[.string (Nm.str s), .int .i64 a, .int .i64 b, .int .i64 c, .int .i64 x, .int .i64 y, .int .i64 z, .bool true] 33)) W → NC W w1.heap.size ⟨s, a, b, c, x, y, z, true⟩ := fun W h => NK.cells (NK.on (n := ⟨s, a, b, c, x, y, z, true⟩) (NK.new w1 ⟨s, a, b, c, x, y, z, true⟩) h (by simp))
  have HD := Lib.hid HD
  have D2 : Hid (Below (w1.alloc (.cells #[.string (Nm.str s), .int .i64 a, .int .i64 b, .int .i64 c, .int .i64 x, .int .i64 y, .int .i64 z, .bool true] 33)).heap.size (w1.alloc (.cells #[.string (Nm.str s), .int .i64 a, .int .i64 b, .int .i64 c, .int .i64 x, .int .i64 y, .int .i64 z, .bool true] 33)) (w1.alloc (.cells #[.string (Nm.str s), .int .i64 a, .int .i64 b, .int .i64 c, .int .i64 x, .int .i64 y, .int .i64 z, .bool true] 33))) := Lib.hid (Below.refl _ _)
  obtain ⟨c0, c1, c2, c3, c4, c5, c6, c7⟩ := HC.out _ B2.out
  obtain ⟨v0, v1, v2⟩ := (HV.out _ B2.out).c3
  obtain ⟨u0, u1, u2⟩ := (HU.out _ B2.out).c3
  obtain ⟨d0, d1, d2, d3, d4, d5, d6, d7⟩ := HD.out _ D2.out
  cases f1 with
  | false =>
    go_wp2_with (first | (go_at_call 19; (with_reducible refine (k1.out _).mono ?_); rintro e w3 ⟨rfl, hb⟩; have B3 := Lib.hid (B2.out.trans (hb.mono B2.out.size)); have D3 := Lib.hid (D2.out.trans (hb.mono D2.out.size)); clear hb; obtain ⟨c0, c1, c2, c3, c4, c5, c6, c7⟩ := HC.out _ B3.out; obtain ⟨v0, v1, v2⟩ := (HV.out _ B3.out).c3; obtain ⟨u0, u1, u2⟩ := (HU.out _ B3.out).c3; obtain ⟨d0, d1, d2, d3, d4, d5, d6, d7⟩ := HD.out _ D3.out) | (go_at_call 17; (with_reducible refine (k2.out _).mono ?_); rintro e w4 ⟨rfl, hb⟩; have B4 := Lib.hid (B3.out.trans (hb.mono B3.out.size)); have D4 := Lib.hid (D3.out.trans (hb.mono D3.out.size)); clear hb; obtain ⟨c0, c1, c2, c3, c4, c5, c6, c7⟩ := HC.out _ B4.out; obtain ⟨v0, v1, v2⟩ := (HV.out _ B4.out).c3; obtain ⟨u0, u1, u2⟩ := (HU.out _ B4.out).c3; obtain ⟨d0, d1, d2, d3, d4, d5, d6, d7⟩ := HD.out _ D4.out) | (go_at_call 22; (with_reducible refine (k3.out _).mono ?_); rintro e w5 ⟨rfl, hb⟩; have B5 := Lib.hid (B4.out.trans (hb.mono B4.out.size)); have D5 := Lib.hid (D4.out.trans (hb.mono D4.out.size)); clear hb; obtain ⟨c0, c1, c2, c3, c4, c5, c6, c7⟩ := HC.out _ B5.out; obtain ⟨v0, v1, v2⟩ := (HV.out _ B5.out).c3; obtain ⟨u0, u1, u2⟩ := (HU.out _ B5.out).c3; obtain ⟨d0, d1, d2, d3, d4, d5, d6, d7⟩ := HD.out _ D5.out))
    go_ret
    exact ⟨rfl, B.out.trans (B5.out.mono (by have := SZ.out; omega))⟩
  | true =>
  cases tw with
  | false =>
    go_wp2_with (first | (go_at_call 19; (with_reducible refine (k1.out _).mono ?_); rintro e w3 ⟨rfl, hb⟩; have B3 := Lib.hid (B2.out.trans (hb.mono B2.out.size)); have D3 := Lib.hid (D2.out.trans (hb.mono D2.out.size)); clear hb; obtain ⟨c0, c1, c2, c3, c4, c5, c6, c7⟩ := HC.out _ B3.out; obtain ⟨v0, v1, v2⟩ := (HV.out _ B3.out).c3; obtain ⟨u0, u1, u2⟩ := (HU.out _ B3.out).c3; obtain ⟨d0, d1, d2, d3, d4, d5, d6, d7⟩ := HD.out _ D3.out) | (go_at_call 17; (with_reducible refine (k2.out _).mono ?_); rintro e w4 ⟨rfl, hb⟩; have B4 := Lib.hid (B3.out.trans (hb.mono B3.out.size)); have D4 := Lib.hid (D3.out.trans (hb.mono D3.out.size)); clear hb; obtain ⟨c0, c1, c2, c3, c4, c5, c6, c7⟩ := HC.out _ B4.out; obtain ⟨v0, v1, v2⟩ := (HV.out _ B4.out).c3; obtain ⟨u0, u1, u2⟩ := (HU.out _ B4.out).c3; obtain ⟨d0, d1, d2, d3, d4, d5, d6, d7⟩ := HD.out _ D4.out) | (go_at_call 22; (with_reducible refine (k3.out _).mono ?_); rintro e w5 ⟨rfl, hb⟩; have B5 := Lib.hid (B4.out.trans (hb.mono B4.out.size)); have D5 := Lib.hid (D4.out.trans (hb.mono D4.out.size)); clear hb; obtain ⟨c0, c1, c2, c3, c4, c5, c6, c7⟩ := HC.out _ B5.out; obtain ⟨v0, v1, v2⟩ := (HV.out _ B5.out).c3; obtain ⟨u0, u1, u2⟩ := (HU.out _ B5.out).c3; obtain ⟨d0, d1, d2, d3, d4, d5, d6, d7⟩ := HD.out _ D5.out) | (go_at_call 19; (with_reducible refine (k4.out _).mono ?_); rintro e w6 ⟨rfl, hb⟩; have B6 := Lib.hid (B5.out.trans (hb.mono B5.out.size)); have D6 := Lib.hid (D5.out.trans (hb.mono D5.out.size)); clear hb; obtain ⟨c0, c1, c2, c3, c4, c5, c6, c7⟩ := HC.out _ B6.out; obtain ⟨v0, v1, v2⟩ := (HV.out _ B6.out).c3; obtain ⟨u0, u1, u2⟩ := (HU.out _ B6.out).c3; obtain ⟨d0, d1, d2, d3, d4, d5, d6, d7⟩ := HD.out _ D6.out))
    go_ret
    exact ⟨rfl, B.out.trans (B6.out.mono (by have := SZ.out; omega))⟩
  | true =>
  cases mv with
  | false =>
    go_wp2_with (first | (go_at_call 19; (with_reducible refine (k1.out _).mono ?_); rintro e w3 ⟨rfl, hb⟩; have B3 := Lib.hid (B2.out.trans (hb.mono B2.out.size)); have D3 := Lib.hid (D2.out.trans (hb.mono D2.out.size)); clear hb; obtain ⟨c0, c1, c2, c3, c4, c5, c6, c7⟩ := HC.out _ B3.out; obtain ⟨v0, v1, v2⟩ := (HV.out _ B3.out).c3; obtain ⟨u0, u1, u2⟩ := (HU.out _ B3.out).c3; obtain ⟨d0, d1, d2, d3, d4, d5, d6, d7⟩ := HD.out _ D3.out) | (go_at_call 17; (with_reducible refine (k2.out _).mono ?_); rintro e w4 ⟨rfl, hb⟩; have B4 := Lib.hid (B3.out.trans (hb.mono B3.out.size)); have D4 := Lib.hid (D3.out.trans (hb.mono D3.out.size)); clear hb; obtain ⟨c0, c1, c2, c3, c4, c5, c6, c7⟩ := HC.out _ B4.out; obtain ⟨v0, v1, v2⟩ := (HV.out _ B4.out).c3; obtain ⟨u0, u1, u2⟩ := (HU.out _ B4.out).c3; obtain ⟨d0, d1, d2, d3, d4, d5, d6, d7⟩ := HD.out _ D4.out) | (go_at_call 22; (with_reducible refine (k3.out _).mono ?_); rintro e w5 ⟨rfl, hb⟩; have B5 := Lib.hid (B4.out.trans (hb.mono B4.out.size)); have D5 := Lib.hid (D4.out.trans (hb.mono D4.out.size)); clear hb; obtain ⟨c0, c1, c2, c3, c4, c5, c6, c7⟩ := HC.out _ B5.out; obtain ⟨v0, v1, v2⟩ := (HV.out _ B5.out).c3; obtain ⟨u0, u1, u2⟩ := (HU.out _ B5.out).c3; obtain ⟨d0, d1, d2, d3, d4, d5, d6, d7⟩ := HD.out _ D5.out) | (go_at_call 19; (with_reducible refine (k4.out _).mono ?_); rintro e w6 ⟨rfl, hb⟩; have B6 := Lib.hid (B5.out.trans (hb.mono B5.out.size)); have D6 := Lib.hid (D5.out.trans (hb.mono D5.out.size)); clear hb; obtain ⟨c0, c1, c2, c3, c4, c5, c6, c7⟩ := HC.out _ B6.out; obtain ⟨v0, v1, v2⟩ := (HV.out _ B6.out).c3; obtain ⟨u0, u1, u2⟩ := (HU.out _ B6.out).c3; obtain ⟨d0, d1, d2, d3, d4, d5, d6, d7⟩ := HD.out _ D6.out) | (go_at_call 20; (with_reducible refine (k5.out _).mono ?_); rintro e w7 ⟨rfl, hb⟩; have B7 := Lib.hid (B6.out.trans (hb.mono B6.out.size)); have D7 := Lib.hid (D6.out.trans (hb.mono D6.out.size)); clear hb; obtain ⟨c0, c1, c2, c3, c4, c5, c6, c7⟩ := HC.out _ B7.out; obtain ⟨v0, v1, v2⟩ := (HV.out _ B7.out).c3; obtain ⟨u0, u1, u2⟩ := (HU.out _ B7.out).c3; obtain ⟨d0, d1, d2, d3, d4, d5, d6, d7⟩ := HD.out _ D7.out))
    go_ret
    exact ⟨rfl, B.out.trans (B7.out.mono (by have := SZ.out; omega))⟩
  | true =>
  have k6x := Lib.hid (k6.out rfl rfl rfl)
  clear k6
  have hle' := decide_eq_true (hle.out rfl rfl rfl)
  clear hle
  go_wp2_with (first | (go_at_call 19; (with_reducible refine (k1.out _).mono ?_); rintro e w3 ⟨rfl, hb⟩; have B3 := Lib.hid (B2.out.trans (hb.mono B2.out.size)); have D3 := Lib.hid (D2.out.trans (hb.mono D2.out.size)); clear hb; obtain ⟨c0, c1, c2, c3, c4, c5, c6, c7⟩ := HC.out _ B3.out; obtain ⟨v0, v1, v2⟩ := (HV.out _ B3.out).c3; obtain ⟨u0, u1, u2⟩ := (HU.out _ B3.out).c3; obtain ⟨d0, d1, d2, d3, d4, d5, d6, d7⟩ := HD.out _ D3.out) | (go_at_call 17; (with_reducible refine (k2.out _).mono ?_); rintro e w4 ⟨rfl, hb⟩; have B4 := Lib.hid (B3.out.trans (hb.mono B3.out.size)); have D4 := Lib.hid (D3.out.trans (hb.mono D3.out.size)); clear hb; obtain ⟨c0, c1, c2, c3, c4, c5, c6, c7⟩ := HC.out _ B4.out; obtain ⟨v0, v1, v2⟩ := (HV.out _ B4.out).c3; obtain ⟨u0, u1, u2⟩ := (HU.out _ B4.out).c3; obtain ⟨d0, d1, d2, d3, d4, d5, d6, d7⟩ := HD.out _ D4.out) | (go_at_call 22; (with_reducible refine (k3.out _).mono ?_); rintro e w5 ⟨rfl, hb⟩; have B5 := Lib.hid (B4.out.trans (hb.mono B4.out.size)); have D5 := Lib.hid (D4.out.trans (hb.mono D4.out.size)); clear hb; obtain ⟨c0, c1, c2, c3, c4, c5, c6, c7⟩ := HC.out _ B5.out; obtain ⟨v0, v1, v2⟩ := (HV.out _ B5.out).c3; obtain ⟨u0, u1, u2⟩ := (HU.out _ B5.out).c3; obtain ⟨d0, d1, d2, d3, d4, d5, d6, d7⟩ := HD.out _ D5.out) | (go_at_call 19; (with_reducible refine (k4.out _).mono ?_); rintro e w6 ⟨rfl, hb⟩; have B6 := Lib.hid (B5.out.trans (hb.mono B5.out.size)); have D6 := Lib.hid (D5.out.trans (hb.mono D5.out.size)); clear hb; obtain ⟨c0, c1, c2, c3, c4, c5, c6, c7⟩ := HC.out _ B6.out; obtain ⟨v0, v1, v2⟩ := (HV.out _ B6.out).c3; obtain ⟨u0, u1, u2⟩ := (HU.out _ B6.out).c3; obtain ⟨d0, d1, d2, d3, d4, d5, d6, d7⟩ := HD.out _ D6.out) | (go_at_call 20; (with_reducible refine (k5.out _).mono ?_); rintro e w7 ⟨rfl, hb⟩; have B7 := Lib.hid (B6.out.trans (hb.mono B6.out.size)); have D7 := Lib.hid (D6.out.trans (hb.mono D6.out.size)); clear hb; obtain ⟨c0, c1, c2, c3, c4, c5, c6, c7⟩ := HC.out _ B7.out; obtain ⟨v0, v1, v2⟩ := (HV.out _ B7.out).c3; obtain ⟨u0, u1, u2⟩ := (HU.out _ B7.out).c3; obtain ⟨d0, d1, d2, d3, d4, d5, d6, d7⟩ := HD.out _ D7.out))
  have E0 : Hid (Below w7.heap.size w7 w7.drew) := Lib.hid (Below.refl _ w7).drew
  have E1 : Hid (Below W0.heap.size W0 w7.drew) := Lib.hid B7.out.drew
  clear d0 d1 d2 d3 d4 d5 d6 d7 HD c0 c1 c2 c3 c4 c5 c6 c7 v0 v1 v2 u0 u1 u2
  have E7 := E1
  clear E0 E1
  have HX : ∀ X : World, Below W0.heap.size W0 X → (X.cell? ⟨w.heap.size, 0, none⟩ = some (.string (Nm.str s)) ∧ X.cell? ⟨w.heap.size, 1, none⟩ = some (.int .i64 a) ∧ X.cell? ⟨w.heap.size, 2, none⟩ = some (.int .i64 b) ∧ X.cell? ⟨w.heap.size, 3, none⟩ = some (.int .i64 c) ∧ X.cell? ⟨w.heap.size, 4, none⟩ = some (.int .i64 x) ∧ X.cell? ⟨w.heap.size, 5, none⟩ = some (.int .i64 y) ∧ X.cell? ⟨w.heap.size, 6, none⟩ = some (.int .i64 z) ∧ X.cell? ⟨w.heap.size, 7, none⟩ = some (.bool d) ∧ X.cell? ⟨w.heap.size + 1, 0, none⟩ = some (.int .i64 p) ∧ X.cell? ⟨w.heap.size + 1, 1, none⟩ = some (.int .i64 q) ∧ X.cell? ⟨w.heap.size + 1, 2, none⟩ = some (.int .i64 r) ∧ X.cell? ⟨w.heap.size + 1 + 1, 0, none⟩ = some (.int .i64 t) ∧ X.cell? ⟨w.heap.size + 1 + 1, 1, none⟩ = some (.int .i64 u) ∧ X.cell? ⟨w.heap.size + 1 + 1, 2, none⟩ = some (.int .i64 v)) := fun X h => ⟨(HC.out _ h).c0, (HC.out _ h).c1, (HC.out _ h).c2, (HC.out _ h).c3, (HC.out _ h).c4, (HC.out _ h).c5, (HC.out _ h).c6, (HC.out _ h).c7, (HV.out _ h).c3.1, (HV.out _ h).c3.2.1, (HV.out _ h).c3.2.2, (HU.out _ h).c3.1, (HU.out _ h).c3.2.1, (HU.out _ h).c3.2.2⟩
  have HX := Lib.hid HX
  obtain ⟨c0, c1, c2, c3, c4, c5, c6, c7, v0, v1, v2, u0, u1, u2⟩ := HX.out _ E7.out
  go_region_held3 (fun X => X.cell? ⟨w.heap.size, 0, none⟩ = some (.string (Nm.str s)) ∧ X.cell? ⟨w.heap.size, 1, none⟩ = some (.int .i64 a) ∧ X.cell? ⟨w.heap.size, 2, none⟩ = some (.int .i64 b) ∧ X.cell? ⟨w.heap.size, 3, none⟩ = some (.int .i64 c) ∧ X.cell? ⟨w.heap.size, 4, none⟩ = some (.int .i64 x) ∧ X.cell? ⟨w.heap.size, 5, none⟩ = some (.int .i64 y) ∧ X.cell? ⟨w.heap.size, 6, none⟩ = some (.int .i64 z) ∧ X.cell? ⟨w.heap.size, 7, none⟩ = some (.bool d) ∧ X.cell? ⟨w.heap.size + 1, 0, none⟩ = some (.int .i64 p) ∧ X.cell? ⟨w.heap.size + 1, 1, none⟩ = some (.int .i64 q) ∧ X.cell? ⟨w.heap.size + 1, 2, none⟩ = some (.int .i64 r) ∧ X.cell? ⟨w.heap.size + 1 + 1, 0, none⟩ = some (.int .i64 t) ∧ X.cell? ⟨w.heap.size + 1 + 1, 1, none⟩ = some (.int .i64 u) ∧ X.cell? ⟨w.heap.size + 1 + 1, 2, none⟩ = some (.int .i64 v)) (first | exact HX.out _ E10.out | exact HX.out _ E9.out | exact HX.out _ E8.out | exact HX.out _ E7.out) (first | (go_at_call 17; (with_reducible refine (k8.out _).mono ?_); rintro e w10 ⟨rfl, hb⟩; have E10 : Hid (Below W0.heap.size W0 w10) := Lib.hid (E9.out.trans (hb.mono E9.out.size)); clear hb; obtain ⟨c0, c1, c2, c3, c4, c5, c6, c7⟩ := HC.out _ E10.out; obtain ⟨v0, v1, v2⟩ := (HV.out _ E10.out).c3; obtain ⟨u0, u1, u2⟩ := (HU.out _ E10.out).c3) | (go_at_call 17; (with_reducible refine (k7.out _).mono ?_); rintro e w9 ⟨rfl, hb⟩; have E9 : Hid (Below W0.heap.size W0 w9) := Lib.hid (E8.out.trans (hb.mono E8.out.size)); clear hb; obtain ⟨c0, c1, c2, c3, c4, c5, c6, c7⟩ := HC.out _ E9.out; obtain ⟨v0, v1, v2⟩ := (HV.out _ E9.out).c3; obtain ⟨u0, u1, u2⟩ := (HU.out _ E9.out).c3) | (go_at_call 19; (with_reducible refine (k6x.out _).mono ?_); rintro e w8 ⟨rfl, hb⟩; have E8 : Hid (Below W0.heap.size W0 w8) := Lib.hid (E7.out.trans (hb.mono E7.out.size)); clear hb; obtain ⟨c0, c1, c2, c3, c4, c5, c6, c7⟩ := HC.out _ E8.out; obtain ⟨v0, v1, v2⟩ := (HV.out _ E8.out).c3; obtain ⟨u0, u1, u2⟩ := (HU.out _ E8.out).c3))
  go_wp2_with fail
  go_ret
  exact ⟨rfl, B.out.trans (E10.out.mono (by have := SZ.out; omega))⟩
theorem law_grows (n : Nd) (p q r t u v : Int) (w : World) (ok : Nok n) (bp : I64 p) (bq : I64 q) (br : I64 r) (bt : I64 t) (bu : I64 u) (bv : I64 v) :
    Calls Try.prog 7 #[nodeV n, .agg #[.int .i64 p, .int .i64 q, .int .i64 r], .agg #[.int .i64 t, .int .i64 u, .int .i64 v]] w (RetBelow (.bool true) w) := by
  obtain ⟨s, a, b, c, x, y, z, d⟩ := n
  have okT : Nok ⟨s, a, b, c, x, y, z, true⟩ := ⟨ok.s, ok.a, ok.b, ok.c, ok.x, ok.y, ok.z⟩
  have hd := drained_plain ⟨s, a, b, c, x, y, z, true⟩ rfl p q r
  refine grows_core s a b c x y z p q r t u v (nscore ⟨s, a, b, c, x, y, z, d⟩ p q r) (nscore ⟨s, a, b, c, x, y, z, d⟩ t u v) d (fitB p q r t u v) (ntakes ⟨s, a, b, c, x, y, z, d⟩ t u v) (fitB 0 0 0 p q r) w
    (Lib.hid awake_any) (Lib.hid fun W => ?_) (Lib.hid fun W => ?_) (Lib.hid fun W => Vc.fits_any _ _ _ _ _ _ W) (Lib.hid fun W => takes_any _ t u v W ok bt bu bv) (Lib.hid fun W => Vc.may_any _ _ _ W)
    (Lib.hid fun h1 h2 h3 W => ?_) (Lib.hid fun W => score_any _ p q r W ok bp bq br) (Lib.hid fun W => score_any _ t u v W ok bt bu bv) (Lib.hid fun h1 h2 h3 => (grows_plain h1 h2 h3).2)
  · have := takes_any _ p q r W okT bp bq br
    rw [hd] at this
    exact this
  · have := score_any _ p q r W okT bp bq br
    unfold nscore at this
    rw [hd] at this
    exact this
  · have := takes_any _ p q r W ok bp bq br
    rw [(grows_plain h1 h2 h3).1] at this
    exact this
end Go.Proofs.Ytjpnkecfoealoaa
