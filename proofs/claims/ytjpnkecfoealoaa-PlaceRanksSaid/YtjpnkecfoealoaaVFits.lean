import Derived.Test.YtjpnkecfoealoaaVLeaf
namespace Go.Proofs.Ytjpnkecfoealoaa.Vc
set_option maxRecDepth 20000
open Go.RowKit
set_option linter.unusedVariables false
def RetBelow (v : Value) (w : World) (e : Ending) (w' : World) : Prop := e = .returned v ∧ Below w.heap.size w w'
theorem least_ret (a b c x y z : Int) (w : World) : Calls Try.prog 36 #[.agg #[.int .i64 a, .int .i64 b, .int .i64 c], .agg #[.int .i64 x, .int .i64 y, .int .i64 z]] w (RetBelow (.agg #[.int .i64 (mn a x), .int .i64 (mn b y), .int .i64 (mn c z)]) w) := least_any a b c x y z w
abbrev C3 (W : World) (p : Nat) (x y z : Int) : Prop := W.cell? ⟨p, 0, none⟩ = some (.int .i64 x) ∧ W.cell? ⟨p, 1, none⟩ = some (.int .i64 y) ∧ W.cell? ⟨p, 2, none⟩ = some (.int .i64 z)
theorem C3.keep {W W' : World} {p n : Nat} {x y z : Int} (h : C3 W p x y z) (hb : Below n W W') (hp : p < n) : C3 W' p x y z :=
  ⟨(hb.cell (p := ⟨p, 0, none⟩) hp).trans h.1, (hb.cell (p := ⟨p, 1, none⟩) hp).trans h.2.1, (hb.cell (p := ⟨p, 2, none⟩) hp).trans h.2.2⟩
def fitB (a b c x y z : Int) : Bool := decide (a ≤ x) && decide (b ≤ y) && decide (c ≤ z)
theorem mn_self (a x : Int) : (mn a x = a) ↔ a ≤ x := by unfold mn; split <;> omega
theorem fit_eq (a b c x y z : Int) : eqV (mn a x) (mn b y) (mn c z) a b c = fitB a b c x y z := by
  rw [Bool.eq_iff_iff, eqV_iff, mn_self, mn_self, mn_self]; simp [fitB, and_assoc]
theorem fits_any (a b c x y z : Int) (w : World) : Calls Try.prog 22 #[.agg #[.int .i64 a, .int .i64 b, .int .i64 c], .agg #[.int .i64 x, .int .i64 y, .int .i64 z]] w (RetBelow (.bool (fitB a b c x y z)) w) := by
  go_enter Try.func22, Try.ntmps22
  go_wp2_with fail
  have h1 : C3 ((w.alloc (.cells #[.int .i64 a, .int .i64 b, .int .i64 c] 24)).alloc (.cells #[.int .i64 x, .int .i64 y, .int .i64 z] 24)) w.heap.size a b c := by
    refine ⟨?_, ?_, ?_⟩ <;> simp [go_sem]
  have h2 : C3 ((w.alloc (.cells #[.int .i64 a, .int .i64 b, .int .i64 c] 24)).alloc (.cells #[.int .i64 x, .int .i64 y, .int .i64 z] 24)) (w.heap.size + 1) x y z := by
    refine ⟨?_, ?_, ?_⟩ <;> simp [go_sem]
  have hb : Below w.heap.size w ((w.alloc (.cells #[.int .i64 a, .int .i64 b, .int .i64 c] 24)).alloc (.cells #[.int .i64 x, .int .i64 y, .int .i64 z] 24)) := ((Below.refl _ _).alloc (Nat.le_refl _) _).alloc (by simp) _
  have hs : w.heap.size + 2 = ((w.alloc (.cells #[.int .i64 a, .int .i64 b, .int .i64 c] 24)).alloc (.cells #[.int .i64 x, .int .i64 y, .int .i64 z] 24)).heap.size := by simp
  generalize ((w.alloc (.cells #[.int .i64 a, .int .i64 b, .int .i64 c] 24)).alloc (.cells #[.int .i64 x, .int .i64 y, .int .i64 z] 24)) = W0 at *
  have B0 := Lib.hid hb
  have S0 := Lib.hid hs
  have E1 := Lib.hid h1
  have E2 := Lib.hid h2
  have e1 : C3 W0.drew w.heap.size a b c := h1
  have e2 : C3 W0.drew (w.heap.size + 1) x y z := h2
  have D0 : Hid (Below W0.heap.size W0 W0.drew) := Lib.hid (Below.refl _ W0).drew
  have hq := fun W => eq23 (mn a x) (mn b y) (mn c z) a b c W
  rw [fit_eq] at hq
  clear hb hs h1 h2
  go_region_held3 (fun W => C3 W w.heap.size a b c ∧ C3 W (w.heap.size + 1) x y z) (first | exact ⟨e1, e2⟩ | exact ⟨e3, e4⟩) (((go_at_call 36); refine (least_ret _ _ _ _ _ _ _).mono ?_; rintro e w1 ⟨rfl, hb1⟩; have B1 : Hid (Below W0.heap.size W0 w1) := Lib.hid (D0.out.trans hb1); clear hb1; have e3 := E1.out.keep B1.out (by have := S0.out; omega); have e4 := E2.out.keep B1.out (by have := S0.out; omega)))
  go_wp2_with fail
  go_ret
  exact ⟨rfl, B0.out.trans (B1.out.mono B0.out.size)⟩
theorem may_any (a b c : Int) (w : World) : Calls Try.prog 20 #[.agg #[.int .i64 a, .int .i64 b, .int .i64 c]] w (RetBelow (.bool (fitB 0 0 0 a b c)) w) := by
  have hq := fun W => build23_0 W
  go_enter Try.func20, Try.ntmps20
  go_wp2_with (((go_at_call 22); refine (fits_any _ _ _ _ _ _ _).mono ?_; rintro e w1 ⟨rfl, hb1⟩))
  go_ret
  exact ⟨rfl, ((Below.refl _ _).alloc (Nat.le_refl _) _).trans (hb1.mono (by simp))⟩
end Go.Proofs.Ytjpnkecfoealoaa.Vc
