import Derived.Test.YtebacdegjmcnlaaGreatRows
import Derived.WalkKit
import Derived.ProofKit
import Derived.WalkLawsBesides
import Derived.Outline
import Derived.Deep.QuietTactic
import Derived.BigQuiet
import Derived.Laws.BitsAllLaws
import Derived.Lib.Hide
import Derived.LoopTactic
import Derived.LoopN
import Derived.Laws.Small
import Derived.Laws.Pointers
import Derived.Laws.StructEq
import Derived.Laws.Tables
import Derived.Laws.Cover2
import Derived.Deep.RegionHeld3
import Derived.StillTailTactics
namespace Go.Proofs.YtebacdegjmcnlaaGreat.Vc
set_option maxRecDepth 20000
open Go.RowKit
set_option linter.unusedVariables false
def eqV (a b c x y z : Int) : Bool := a == x && (b == y && c == z)
theorem eq23 (a b c x y z : Int) (w : World) : (Op.equalIn 10000 30 (.agg #[.int .i64 a, .int .i64 b, .int .i64 c]) (.agg #[.int .i64 x, .int .i64 y, .int .i64 z])).run Tryz.prog w = .ok (eqV a b c x y z) w := by
  have u3 := Tryz.underlying2
  have a3 := Tryz.isAgg2
  have z3 := Tryz.sizeOf2
  rw [show (10000 : Nat) = 9999 + 1 from rfl, Op.equalIn]
  simp only [Sem.run_bind, run_underlying Tryz.underlying30, Result.andThen_ok]
  simp only [Std.Legacy.Range.forIn_eq_forIn_range', Std.Legacy.Range.size, Nat.sub_zero, Nat.add_sub_cancel, Nat.div_one, List.range'_succ, List.range'_zero, List.forIn_cons, List.forIn_nil]
  unfold eqV
  go_simp
  by_cases h1 : a = x <;> by_cases h2 : b = y <;> by_cases h3 : c = z <;> simp [h1, h2, h3]
theorem eqV_iff {a b c x y z : Int} : eqV a b c x y z = true ↔ a = x ∧ b = y ∧ c = z := by simp [eqV]
theorem eqV_refl (a b c : Int) : eqV a b c a b c = true := eqV_iff.2 ⟨rfl, rfl, rfl⟩
theorem eqV_ne {a b c x y z : Int} (h : ¬ (a = x ∧ b = y ∧ c = z)) : eqV a b c x y z = false := by rw [← Bool.not_eq_true, eqV_iff]; exact h
theorem build23_0 (w : World) : (Instr.build 30 #[]).run Tryz.prog w = .ok (.agg #[.int .i64 0, .int .i64 0, .int .i64 0]) w := run_build w 30 _ _ (by kernel_rfl)
theorem build23_1 (a : Int) (w : World) : (Instr.build 30 #[(0, .int .i64 a)]).run Tryz.prog w = .ok (.agg #[.int .i64 a, .int .i64 0, .int .i64 0]) w := run_build w 30 _ _ (by kernel_rfl)
theorem build23_3 (a b c : Int) (w : World) : (Instr.build 30 #[(0, .int .i64 a), (1, .int .i64 b), (2, .int .i64 c)]).run Tryz.prog w = .ok (.agg #[.int .i64 a, .int .i64 b, .int .i64 c]) w := run_build w 30 _ _ (by kernel_rfl)
def sg (n : Int) : Int := n / 9223372036854775808
theorem ret_i64 {a b : Int} (h : a = b) : Ending.returned (.int .i64 a) = .returned (.int .i64 b) := by rw [h]
def vv (x y z : Int) : Value := .agg #[.int .i64 x, .int .i64 y, .int .i64 z]
def mn (x y : Int) : Int := if y < x then y else x
theorem mn_fold (x y : Int) : (if y < x then y else x) = mn x y := rfl
theorem least_any (a b c x y z : Int) (w : World) : Calls Tryz.prog 111 #[vv a b c, vv x y z] w fun e w' => e = .returned (vv (mn a x) (mn b y) (mn c z)) ∧ Below w.heap.size w w' := by
  unfold vv
  go_enter Tryz.func111, Tryz.ntmps111
  go_wp2_with fail
  refine wp_loop_rounds 4 ?_
  rw [rounds_succ]
  go_wp2_with fail
  refine wp_region_still_tail 9 (by kernel_rfl) (by kernel_rfl) ?_
  simp only [List.take_succ_cons, List.take_zero, List.drop_succ_cons, List.drop_zero]
  change wpStill _ _ (World.drew _) _ _ _
  repeat still_step
  refine wpStill_nil ?_
  change wpList _ _ _ _ _ (World.drew _)
  simp only [mn_fold]
  go_wp2_with fail
  rw [rounds_succ]
  go_wp2_with fail
  refine wp_region_still_tail 9 (by kernel_rfl) (by kernel_rfl) ?_
  simp only [List.take_succ_cons, List.take_zero, List.drop_succ_cons, List.drop_zero]
  change wpStill _ _ (World.drew _) _ _ _
  repeat still_step
  refine wpStill_nil ?_
  change wpList _ _ _ _ _ (World.drew _)
  simp only [mn_fold]
  go_wp2_with fail
  rw [rounds_succ]
  go_wp2_with fail
  refine wp_region_still_tail 9 (by kernel_rfl) (by kernel_rfl) ?_
  simp only [List.take_succ_cons, List.take_zero, List.drop_succ_cons, List.drop_zero]
  change wpStill _ _ (World.drew _) _ _ _
  repeat still_step
  refine wpStill_nil ?_
  change wpList _ _ _ _ _ (World.drew _)
  simp only [mn_fold]
  go_wp2_with fail
  rw [rounds_succ]
  go_wp2_with fail
  exact bodyPost_ret (v := .agg #[.int .i64 (mn a x), .int .i64 (mn b y), .int .i64 (mn c z)]) (by simp [results, Tryz.results111, go_sem]) rfl
    ⟨rfl, ((((Below.refl _ _).alloc (Nat.le_refl _) _).alloc (by simp) _).alloc (by simp; omega) _).drew.drew.drew⟩
end Go.Proofs.YtebacdegjmcnlaaGreat.Vc
namespace Go.Proofs.YtebacdegjmcnlaaGreat.Vc
set_option maxRecDepth 20000
open Go.RowKit
set_option linter.unusedVariables false
def RetBelow (v : Value) (w : World) (e : Ending) (w' : World) : Prop := e = .returned v ∧ Below w.heap.size w w'
theorem least_ret (a b c x y z : Int) (w : World) : Calls Tryz.prog 111 #[.agg #[.int .i64 a, .int .i64 b, .int .i64 c], .agg #[.int .i64 x, .int .i64 y, .int .i64 z]] w (RetBelow (.agg #[.int .i64 (mn a x), .int .i64 (mn b y), .int .i64 (mn c z)]) w) := least_any a b c x y z w
abbrev C3 (W : World) (p : Nat) (x y z : Int) : Prop := W.cell? ⟨p, 0, none⟩ = some (.int .i64 x) ∧ W.cell? ⟨p, 1, none⟩ = some (.int .i64 y) ∧ W.cell? ⟨p, 2, none⟩ = some (.int .i64 z)
theorem C3.keep {W W' : World} {p n : Nat} {x y z : Int} (h : C3 W p x y z) (hb : Below n W W') (hp : p < n) : C3 W' p x y z :=
  ⟨(hb.cell (p := ⟨p, 0, none⟩) hp).trans h.1, (hb.cell (p := ⟨p, 1, none⟩) hp).trans h.2.1, (hb.cell (p := ⟨p, 2, none⟩) hp).trans h.2.2⟩
def fitB (a b c x y z : Int) : Bool := decide (a ≤ x) && decide (b ≤ y) && decide (c ≤ z)
theorem mn_self (a x : Int) : (mn a x = a) ↔ a ≤ x := by unfold mn; split <;> omega
theorem fit_eq (a b c x y z : Int) : eqV (mn a x) (mn b y) (mn c z) a b c = fitB a b c x y z := by
  rw [Bool.eq_iff_iff, eqV_iff, mn_self, mn_self, mn_self]; simp [fitB, and_assoc]
theorem fits_any (a b c x y z : Int) (w : World) : Calls Tryz.prog 99 #[.agg #[.int .i64 a, .int .i64 b, .int .i64 c], .agg #[.int .i64 x, .int .i64 y, .int .i64 z]] w (RetBelow (.bool (fitB a b c x y z)) w) := by
  go_enter Tryz.func99, Tryz.ntmps99
  go_wp2_with fail
  have h1 : C3 ((w.alloc (.cells #[.int .i64 a, .int .i64 b, .int .i64 c] 30)).alloc (.cells #[.int .i64 x, .int .i64 y, .int .i64 z] 30)) w.heap.size a b c := by
    refine ⟨?_, ?_, ?_⟩ <;> simp [go_sem]
  have h2 : C3 ((w.alloc (.cells #[.int .i64 a, .int .i64 b, .int .i64 c] 30)).alloc (.cells #[.int .i64 x, .int .i64 y, .int .i64 z] 30)) (w.heap.size + 1) x y z := by
    refine ⟨?_, ?_, ?_⟩ <;> simp [go_sem]
  have hb : Below w.heap.size w ((w.alloc (.cells #[.int .i64 a, .int .i64 b, .int .i64 c] 30)).alloc (.cells #[.int .i64 x, .int .i64 y, .int .i64 z] 30)) := ((Below.refl _ _).alloc (Nat.le_refl _) _).alloc (by simp) _
  have hs : w.heap.size + 2 = ((w.alloc (.cells #[.int .i64 a, .int .i64 b, .int .i64 c] 30)).alloc (.cells #[.int .i64 x, .int .i64 y, .int .i64 z] 30)).heap.size := by simp
  generalize ((w.alloc (.cells #[.int .i64 a, .int .i64 b, .int .i64 c] 30)).alloc (.cells #[.int .i64 x, .int .i64 y, .int .i64 z] 30)) = W0 at *
  have B0 := Lib.hid hb
  have S0 := Lib.hid hs
  have E1 := Lib.hid h1
  have E2 := Lib.hid h2
  have e1 : C3 W0.drew w.heap.size a b c := h1
  have e2 : C3 W0.drew (w.heap.size + 1) x y z := h2
  have D0 : Hid (Below W0.heap.size W0 W0.drew) := Lib.hid (Below.refl _ W0).drew
  have hq := fun W => eq23 (mn a x) (mn b y) (mn c z) a b c W
  rw [fit_eq] at hq
  clear hb hs h1 h2
  go_region_held3 (fun W => C3 W w.heap.size a b c ∧ C3 W (w.heap.size + 1) x y z) (first | exact ⟨e1, e2⟩ | exact ⟨e3, e4⟩) (((go_at_call 111); refine (least_ret _ _ _ _ _ _ _).mono ?_; rintro e w1 ⟨rfl, hb1⟩; have B1 : Hid (Below W0.heap.size W0 w1) := Lib.hid (D0.out.trans hb1); clear hb1; have e3 := E1.out.keep B1.out (by have := S0.out; omega); have e4 := E2.out.keep B1.out (by have := S0.out; omega)))
  go_wp2_with fail
  go_ret
  exact ⟨rfl, B0.out.trans (B1.out.mono B0.out.size)⟩
theorem may_any (a b c : Int) (w : World) : Calls Tryz.prog 72 #[.agg #[.int .i64 a, .int .i64 b, .int .i64 c]] w (RetBelow (.bool (fitB 0 0 0 a b c)) w) := by
  have hq := fun W => build23_0 W
  go_enter Tryz.func72, Tryz.ntmps72
  go_wp2_with (((go_at_call 99); refine (fits_any _ _ _ _ _ _ _).mono ?_; rintro e w1 ⟨rfl, hb1⟩))
  go_ret
  exact ⟨rfl, ((Below.refl _ _).alloc (Nat.le_refl _) _).trans (hb1.mono (by simp))⟩
end Go.Proofs.YtebacdegjmcnlaaGreat.Vc
namespace Go.Proofs.YtebacdegjmcnlaaGreat.Vc
set_option maxRecDepth 20000
open Go.RowKit
set_option linter.unusedVariables false
theorem refMay_any (a b c : Int) (w : World) : Calls Tryz.prog 96 #[.agg #[.int .i64 a, .int .i64 b, .int .i64 c]] w (RetBelow (.bool (fitB 0 0 0 a b c)) w) := by
  have cs : (decide (0 ≤ a) = false ∧ fitB 0 0 0 a b c = false) ∨ (decide (0 ≤ a) = true ∧ decide (0 ≤ b) = false ∧ fitB 0 0 0 a b c = false) ∨ (decide (0 ≤ a) = true ∧ decide (0 ≤ b) = true ∧ fitB 0 0 0 a b c = decide (0 ≤ c)) := by
    unfold fitB
    cases decide (0 ≤ a) <;> cases decide (0 ≤ b) <;> simp
  have B := Lib.hid ((Below.refl _ w).alloc (Nat.le_refl _) (.cells #[.int .i64 a, .int .i64 b, .int .i64 c] 30))
  rcases cs with ⟨h1, h⟩ | ⟨h1, h2, h⟩ | ⟨h1, h2, h⟩
  · have H := Lib.hid h
    clear h
    go_enter Tryz.func96, Tryz.ntmps96
    go_wp2_with fail
    go_ret
    exact ⟨by rw [H.out]; rfl, B.out⟩
  · have H := Lib.hid h
    clear h
    go_enter Tryz.func96, Tryz.ntmps96
    go_wp2_with fail
    go_ret
    exact ⟨by rw [H.out]; rfl, B.out⟩
  · have H := Lib.hid h
    clear h
    go_enter Tryz.func96, Tryz.ntmps96
    go_wp2_with fail
    go_ret
    exact ⟨by rw [H.out]; rfl, B.out⟩
end Go.Proofs.YtebacdegjmcnlaaGreat.Vc
