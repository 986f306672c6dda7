import Derived.Test.YtphclpjekpdifaaGreatRows
import Derived.WalkKit
import Derived.ProofKit
import Derived.WalkLawsBesides
import Derived.Outline
import Derived.Deep.QuietTactic
import Derived.BigQuiet
import Derived.Laws.BitsAllLaws
import Derived.Lib.Hide
import Derived.LoopTactic
import Derived.LoopN
import Derived.Laws.Small
import Derived.Laws.Pointers
import Derived.Laws.StructEq
import Derived.Laws.Tables
import Derived.Laws.Cover2
import Derived.Deep.RegionHeld3
import Derived.StillTailTactics
import Derived.Shelf.Spec.BitsCarry
namespace Go.Proofs.YtphclpjekpdifaaGreat.Vc
set_option maxRecDepth 20000
open Go.RowKit
set_option linter.unusedVariables false
def eqV (a b c x y z : Int) : Bool := a == x && (b == y && c == z)
theorem eq23 (a b c x y z : Int) (w : World) : (Op.equalIn 10000 28 (.agg #[.int .i64 a, .int .i64 b, .int .i64 c]) (.agg #[.int .i64 x, .int .i64 y, .int .i64 z])).run Tryz.prog w = .ok (eqV a b c x y z) w := by
  have u3 := Tryz.underlying2
  have a3 := Tryz.isAgg2
  have z3 := Tryz.sizeOf2
  rw [show (10000 : Nat) = 9999 + 1 from rfl, Op.equalIn]
  simp only [Sem.run_bind, run_underlying Tryz.underlying28, Result.andThen_ok]
  simp only [Std.Legacy.Range.forIn_eq_forIn_range', Std.Legacy.Range.size, Nat.sub_zero, Nat.add_sub_cancel, Nat.div_one, List.range'_succ, List.range'_zero, List.forIn_cons, List.forIn_nil]
  unfold eqV
  go_simp
  by_cases h1 : a = x <;> by_cases h2 : b = y <;> by_cases h3 : c = z <;> simp [h1, h2, h3]
theorem eqV_iff {a b c x y z : Int} : eqV a b c x y z = true ↔ a = x ∧ b = y ∧ c = z := by simp [eqV]
theorem eqV_ne {a b c x y z : Int} (h : ¬ (a = x ∧ b = y ∧ c = z)) : eqV a b c x y z = false := by rw [← Bool.not_eq_true, eqV_iff]; exact h
theorem build23_0 (w : World) : (Instr.build 28 #[]).run Tryz.prog w = .ok (.agg #[.int .i64 0, .int .i64 0, .int .i64 0]) w := run_build w 28 _ _ (by kernel_rfl)
def sg (n : Int) : Int := n / 9223372036854775808
theorem ret_i64 {a b : Int} (h : a = b) : Ending.returned (.int .i64 a) = .returned (.int .i64 b) := by rw [h]
theorem sign_any (n : Int) (w : World) (h0 : -9223372036854775808 ≤ n) (h1 : n ≤ 9223372036854775807) : Calls Tryz.prog 194 #[.int .i64 n] w fun e w' => e = .returned (.int .i64 (sg n)) ∧ w = w' := by
  go_enter Tryz.func194, Tryz.ntmps194
  go_wp2_with fail
  go_ret
  exact ⟨rfl, rfl⟩
def vv (x y z : Int) : Value := .agg #[.int .i64 x, .int .i64 y, .int .i64 z]
def mn (x y : Int) : Int := if y < x then y else x
theorem mn_fold (x y : Int) : (if y < x then y else x) = mn x y := rfl
theorem least_any (a b c x y z : Int) (w : World) : Calls Tryz.prog 153 #[vv a b c, vv x y z] w fun e w' => e = .returned (vv (mn a x) (mn b y) (mn c z)) ∧ Below w.heap.size w w' := by
  unfold vv
  go_enter Tryz.func153, Tryz.ntmps153
  go_wp2_with fail
  refine wp_loop_rounds 4 ?_
  rw [rounds_succ]
  go_wp2_with fail
  refine wp_region_still_tail 9 (by kernel_rfl) (by kernel_rfl) ?_
  simp only [List.take_succ_cons, List.take_zero, List.drop_succ_cons, List.drop_zero]
  change wpStill _ _ (World.drew _) _ _ _
  repeat still_step
  refine wpStill_nil ?_
  change wpList _ _ _ _ _ (World.drew _)
  simp only [mn_fold]
  go_wp2_with fail
  rw [rounds_succ]
  go_wp2_with fail
  refine wp_region_still_tail 9 (by kernel_rfl) (by kernel_rfl) ?_
  simp only [List.take_succ_cons, List.take_zero, List.drop_succ_cons, List.drop_zero]
  change wpStill _ _ (World.drew _) _ _ _
  repeat still_step
  refine wpStill_nil ?_
  change wpList _ _ _ _ _ (World.drew _)
  simp only [mn_fold]
  go_wp2_with fail
  rw [rounds_succ]
  go_wp2_with fail
  refine wp_region_still_tail 9 (by kernel_rfl) (by kernel_rfl) ?_
  simp only [List.take_succ_cons, List.take_zero, List.drop_succ_cons, List.drop_zero]
  change wpStill _ _ (World.drew _) _ _ _
  repeat still_step
  refine wpStill_nil ?_
  change wpList _ _ _ _ _ (World.drew _)
  simp only [mn_fold]
  go_wp2_with fail
  rw [rounds_succ]
  go_wp2_with fail
  exact bodyPost_ret (v := .agg #[.int .i64 (mn a x), .int .i64 (mn b y), .int .i64 (mn c z)]) (by simp [results, Tryz.results153, go_sem]) rfl
    ⟨rfl, ((((Below.refl _ _).alloc (Nat.le_refl _) _).alloc (by simp) _).alloc (by simp; omega) _).drew.drew.drew⟩
def RetBelow (v : Value) (w : World) (e : Ending) (w' : World) : Prop := e = .returned v ∧ Below w.heap.size w w'
theorem least_ret (a b c x y z : Int) (w : World) : Calls Tryz.prog 153 #[.agg #[.int .i64 a, .int .i64 b, .int .i64 c], .agg #[.int .i64 x, .int .i64 y, .int .i64 z]] w (RetBelow (.agg #[.int .i64 (mn a x), .int .i64 (mn b y), .int .i64 (mn c z)]) w) := least_any a b c x y z w
abbrev C3 (W : World) (p : Nat) (x y z : Int) : Prop := W.cell? ⟨p, 0, none⟩ = some (.int .i64 x) ∧ W.cell? ⟨p, 1, none⟩ = some (.int .i64 y) ∧ W.cell? ⟨p, 2, none⟩ = some (.int .i64 z)
theorem C3.keep {W W' : World} {p n : Nat} {x y z : Int} (h : C3 W p x y z) (hb : Below n W W') (hp : p < n) : C3 W' p x y z :=
  ⟨(hb.cell (p := ⟨p, 0, none⟩) hp).trans h.1, (hb.cell (p := ⟨p, 1, none⟩) hp).trans h.2.1, (hb.cell (p := ⟨p, 2, none⟩) hp).trans h.2.2⟩
def fitB (a b c x y z : Int) : Bool := decide (a ≤ x) && decide (b ≤ y) && decide (c ≤ z)
theorem mn_self (a x : Int) : (mn a x = a) ↔ a ≤ x := by unfold mn; split <;> omega
theorem fit_eq (a b c x y z : Int) : eqV (mn a x) (mn b y) (mn c z) a b c = fitB a b c x y z := by
  rw [Bool.eq_iff_iff, eqV_iff, mn_self, mn_self, mn_self]; simp [fitB, and_assoc]
theorem fits_any (a b c x y z : Int) (w : World) : Calls Tryz.prog 119 #[.agg #[.int .i64 a, .int .i64 b, .int .i64 c], .agg #[.int .i64 x, .int .i64 y, .int .i64 z]] w (RetBelow (.bool (fitB a b c x y z)) w) := by
  go_enter Tryz.func119, Tryz.ntmps119
  go_wp2_with fail
  have h1 : C3 ((w.alloc (.cells #[.int .i64 a, .int .i64 b, .int .i64 c] 28)).alloc (.cells #[.int .i64 x, .int .i64 y, .int .i64 z] 28)) w.heap.size a b c := by
    refine ⟨?_, ?_, ?_⟩ <;> simp [go_sem]
  have h2 : C3 ((w.alloc (.cells #[.int .i64 a, .int .i64 b, .int .i64 c] 28)).alloc (.cells #[.int .i64 x, .int .i64 y, .int .i64 z] 28)) (w.heap.size + 1) x y z := by
    refine ⟨?_, ?_, ?_⟩ <;> simp [go_sem]
  have hb : Below w.heap.size w ((w.alloc (.cells #[.int .i64 a, .int .i64 b, .int .i64 c] 28)).alloc (.cells #[.int .i64 x, .int .i64 y, .int .i64 z] 28)) := ((Below.refl _ _).alloc (Nat.le_refl _) _).alloc (by simp) _
  have hs : w.heap.size + 2 = ((w.alloc (.cells #[.int .i64 a, .int .i64 b, .int .i64 c] 28)).alloc (.cells #[.int .i64 x, .int .i64 y, .int .i64 z] 28)).heap.size := by simp
  generalize ((w.alloc (.cells #[.int .i64 a, .int .i64 b, .int .i64 c] 28)).alloc (.cells #[.int .i64 x, .int .i64 y, .int .i64 z] 28)) = W0 at *
  have B0 := Lib.hid hb
  have S0 := Lib.hid hs
  have E1 := Lib.hid h1
  have E2 := Lib.hid h2
  have e1 : C3 W0.drew w.heap.size a b c := h1
  have e2 : C3 W0.drew (w.heap.size + 1) x y z := h2
  have D0 : Hid (Below W0.heap.size W0 W0.drew) := Lib.hid (Below.refl _ W0).drew
  have hq := fun W => eq23 (mn a x) (mn b y) (mn c z) a b c W
  rw [fit_eq] at hq
  clear hb hs h1 h2
  go_region_held3 (fun W => C3 W w.heap.size a b c ∧ C3 W (w.heap.size + 1) x y z) (first | exact ⟨e1, e2⟩ | exact ⟨e3, e4⟩) (((go_at_call 153); refine (least_ret _ _ _ _ _ _ _).mono ?_; rintro e w1 ⟨rfl, hb1⟩; have B1 : Hid (Below W0.heap.size W0 w1) := Lib.hid (D0.out.trans hb1); clear hb1; have e3 := E1.out.keep B1.out (by have := S0.out; omega); have e4 := E2.out.keep B1.out (by have := S0.out; omega)))
  go_wp2_with fail
  go_ret
  exact ⟨rfl, B0.out.trans (B1.out.mono B0.out.size)⟩
theorem may_any (a b c : Int) (w : World) : Calls Tryz.prog 118 #[.agg #[.int .i64 a, .int .i64 b, .int .i64 c]] w (RetBelow (.bool (fitB 0 0 0 a b c)) w) := by
  have hq := fun W => build23_0 W
  go_enter Tryz.func118, Tryz.ntmps118
  go_wp2_with (((go_at_call 119); refine (fits_any _ _ _ _ _ _ _).mono ?_; rintro e w1 ⟨rfl, hb1⟩))
  go_ret
  exact ⟨rfl, ((Below.refl _ _).alloc (Nat.le_refl _) _).trans (hb1.mono (by simp))⟩
def aS (x y : Int) : Int := (x + y) % 18446744073709551616
def aC (x y : Int) : Int := (x + y) / 18446744073709551616
def dS (x y : Int) : Int := (x - y) % 18446744073709551616
def dB (x y : Int) : Int := if x < y then 1 else 0
theorem add64 (x y : Int) (hx : 0 ≤ x) (hy : 0 ≤ y) (w : World) : (callFunc 193 #[.int .u64 x, .int .u64 y, .int .u64 0]).run Tryz.prog w = .ok (.value (.tuple #[.int .u64 (aS x y), .int .u64 (aC x y)])) w := by
  rw [run_callFunc_extern Tryz.func193 (by kernel_rfl) (by kernel_rfl) (by kernel_rfl) (e := add64Entry) (by kernel_rfl),
    run_add64 x y 0 hx hy (by omega) (by omega)]
  simp [Result.andThen, aS, aC]
structure Up (l x h l' h' : Int) (s c gc : Int) : Prop where
  call : ∀ W : World, (callFunc 193 #[.int .u64 (IntKind.u64.wrap l), .int .u64 (IntKind.u64.wrap x), .int .u64 0]).run Tryz.prog W = .ok (.value (.tuple #[.int .u64 s, .int .u64 c])) W
  wl : IntKind.i64.wrap s = l'
  wc : IntKind.i64.wrap c = c
  wg : IntKind.i64.wrap (sg x + c) = gc
  wh : IntKind.i64.wrap (h + gc) = h'
  b0 : -9223372036854775808 ≤ x
  b1 : x ≤ 9223372036854775807
def lo (T : Int) : Int := (T + 9223372036854775808) % 18446744073709551616 - 9223372036854775808
def hi (T : Int) : Int := T / 18446744073709551616
def Big (T : Int) : Prop := -1208925819614629174706176 ≤ T ∧ T ≤ 1208925819614629174706176
def I64 (x : Int) : Prop := -9223372036854775808 ≤ x ∧ x ≤ 9223372036854775807
theorem lo_mod (T : Int) : lo T % 18446744073709551616 = T % 18446744073709551616 := by unfold lo; omega
theorem hi_up (T x : Int) (hx : I64 x) : hi T + (sg x + (T % 18446744073709551616 + x % 18446744073709551616) / 18446744073709551616) = hi (T + x) := by
  obtain ⟨x0, x1⟩ := hx
  unfold hi sg
  have : x / 9223372036854775808 = x / 18446744073709551616 := by omega
  rw [this]
  omega
theorem hi_bd (T : Int) (hT : -2417851639229258349412352 ≤ T ∧ T ≤ 2417851639229258349412352) : -9223372036854775808 ≤ hi T ∧ hi T ≤ 9223372036854775807 := by unfold hi; omega
theorem up_of (T x : Int) (hT : Big T) (hx : I64 x) : Up (lo T) x (hi T) (lo (T + x)) (hi (T + x)) (aS (IntKind.u64.wrap (lo T)) (IntKind.u64.wrap x)) (aC (IntKind.u64.wrap (lo T)) (IntKind.u64.wrap x)) (sg x + aC (IntKind.u64.wrap (lo T)) (IntKind.u64.wrap x)) := by
  have hh := hi_up T x hx
  have hb := hi_bd (T + x) (by unfold Big at hT; unfold I64 at hx; omega)
  obtain ⟨t0, t1⟩ := hT
  obtain ⟨x0, x1⟩ := hx
  have ec : aC (IntKind.u64.wrap (lo T)) (IntKind.u64.wrap x) = (T % 18446744073709551616 + x % 18446744073709551616) / 18446744073709551616 := by
    rw [IntKind.wrap_u64, IntKind.wrap_u64, lo_mod]; rfl
  have es : aS (IntKind.u64.wrap (lo T)) (IntKind.u64.wrap x) = (T % 18446744073709551616 + x % 18446744073709551616) % 18446744073709551616 := by
    rw [IntKind.wrap_u64, IntKind.wrap_u64, lo_mod]; rfl
  constructor
  · intro W
    exact add64 _ _ (by rw [IntKind.wrap_u64]; omega) (by rw [IntKind.wrap_u64]; omega) W
  · rw [es]; unfold lo; rw [IntKind.wrap_i64]; omega
  · rw [ec, IntKind.wrap_i64]; omega
  · rw [ec, IntKind.wrap_i64]; unfold sg; omega
  · rw [ec, hh, IntKind.wrap_i64]; omega
  · exact x0
  · exact x1
theorem hi_down (T x : Int) (hx : I64 x) : hi T - (sg x + dB (T % 18446744073709551616) (x % 18446744073709551616)) = hi (T - x) := by
  obtain ⟨x0, x1⟩ := hx
  unfold hi sg dB
  have : x / 9223372036854775808 = x / 18446744073709551616 := by omega
  rw [this]
  split <;> omega
structure TS (W0 W : World) (g b : Nat) (h0 h1 h2 l0 l1 l2 x y z : Int) : Prop where
  c0 : W.cell? ⟨g, 0, none⟩ = some (.int .i64 h0)
  c1 : W.cell? ⟨g, 1, none⟩ = some (.int .i64 h1)
  c2 : W.cell? ⟨g, 2, none⟩ = some (.int .i64 h2)
  c3 : W.cell? ⟨g, 3, none⟩ = some (.int .i64 l0)
  c4 : W.cell? ⟨g, 4, none⟩ = some (.int .i64 l1)
  c5 : W.cell? ⟨g, 5, none⟩ = some (.int .i64 l2)
  f0 : W.frozen? ⟨g, 0, none⟩ = false
  f1 : W.frozen? ⟨g, 1, none⟩ = false
  f2 : W.frozen? ⟨g, 2, none⟩ = false
  f3 : W.frozen? ⟨g, 3, none⟩ = false
  f4 : W.frozen? ⟨g, 4, none⟩ = false
  f5 : W.frozen? ⟨g, 5, none⟩ = false
  d0 : W.cell? ⟨b, 0, none⟩ = some (.int .i64 x)
  d1 : W.cell? ⟨b, 1, none⟩ = some (.int .i64 y)
  d2 : W.cell? ⟨b, 2, none⟩ = some (.int .i64 z)
  gb : W0.grownBy W (some g)
  ne : g < b
theorem rounds_forget {P : Program} {c : Code} {Q : Exit → Act → World → Prop} {n : Nat} {a : Act} {W : World} (p : World → Prop) (h : p W) (k : ∀ W', p W' → Code.rounds P c Q n a W') : Code.rounds P c Q n a W := k W h
theorem grownBy_set' {W0 W : World} {g : Nat} (h : W0.grownBy W (some g)) (k : Nat) (v : Value) : W0.grownBy (W.setCell ⟨g, k, none⟩ v) (some g) :=
  ⟨h.os, h.tape, h.output, by simpa [World.setCell] using h.size, fun j hj hne => (Below.heap_setCell W _ v j (fun e => hne (by rw [e]))).trans (h.block j hj hne)⟩
theorem grownBy_drewN {w w' : World} {row : Option Nat} (h : w.grownBy w' row) (n : Nat) : w.grownBy (w'.drewN n) row := ⟨h.os, h.tape, h.output, h.size, h.block⟩
theorem grownBy_drew' {w w' : World} {row : Option Nat} (h : w.grownBy w' row) : w.grownBy w'.drew row := ⟨h.os, h.tape, h.output, h.size, h.block⟩
theorem TS.next0 {W0 W : World} {g b : Nat} {h0 h1 h2 l0 l1 l2 x y z : Int} (h : TS W0 W g b h0 h1 h2 l0 l1 l2 x y z) (n : Nat) (l' h' : Int) :
    TS W0 (((W.drewN n).setCell ⟨g, 3, none⟩ (.int .i64 l')).setCell ⟨g, 0, none⟩ (.int .i64 h')).drew g b h' h1 h2 l' l1 l2 x y z := by
  obtain ⟨c0, c1, c2, c3, c4, c5, f0, f1, f2, f3, f4, f5, d0, d1, d2, gb, ne⟩ := h
  have nb : b ≠ g := by omega
  have nb' : g ≠ b := by omega
  refine ⟨?_, ?_, ?_, ?_, ?_, ?_, ?_, ?_, ?_, ?_, ?_, ?_, ?_, ?_, ?_, ?_, ne⟩
  case refine_16 => exact grownBy_drew' (grownBy_set' (grownBy_set' (grownBy_drewN gb _) _ _) _ _)
  all_goals go_simp
theorem TS.next1 {W0 W : World} {g b : Nat} {h0 h1 h2 l0 l1 l2 x y z : Int} (h : TS W0 W g b h0 h1 h2 l0 l1 l2 x y z) (n : Nat) (l' h' : Int) :
    TS W0 (((W.drewN n).setCell ⟨g, 4, none⟩ (.int .i64 l')).setCell ⟨g, 1, none⟩ (.int .i64 h')).drew g b h0 h' h2 l0 l' l2 x y z := by
  obtain ⟨c0, c1, c2, c3, c4, c5, f0, f1, f2, f3, f4, f5, d0, d1, d2, gb, ne⟩ := h
  have nb : b ≠ g := by omega
  have nb' : g ≠ b := by omega
  refine ⟨?_, ?_, ?_, ?_, ?_, ?_, ?_, ?_, ?_, ?_, ?_, ?_, ?_, ?_, ?_, ?_, ne⟩
  case refine_16 => exact grownBy_drew' (grownBy_set' (grownBy_set' (grownBy_drewN gb _) _ _) _ _)
  all_goals go_simp
theorem TS.next2 {W0 W : World} {g b : Nat} {h0 h1 h2 l0 l1 l2 x y z : Int} (h : TS W0 W g b h0 h1 h2 l0 l1 l2 x y z) (n : Nat) (l' h' : Int) :
    TS W0 (((W.drewN n).setCell ⟨g, 5, none⟩ (.int .i64 l')).setCell ⟨g, 2, none⟩ (.int .i64 h')).drew g b h0 h1 h' l0 l1 l' x y z := by
  obtain ⟨c0, c1, c2, c3, c4, c5, f0, f1, f2, f3, f4, f5, d0, d1, d2, gb, ne⟩ := h
  have nb : b ≠ g := by omega
  have nb' : g ≠ b := by omega
  refine ⟨?_, ?_, ?_, ?_, ?_, ?_, ?_, ?_, ?_, ?_, ?_, ?_, ?_, ?_, ?_, ?_, ne⟩
  case refine_16 => exact grownBy_drew' (grownBy_set' (grownBy_set' (grownBy_drewN gb _) _ _) _ _)
  all_goals go_simp
structure TotAt (W : World) (g : Nat) (X Y Z : Int) : Prop where
  c0 : W.cell? ⟨g, 0, none⟩ = some (.int .i64 (hi X))
  c1 : W.cell? ⟨g, 1, none⟩ = some (.int .i64 (hi Y))
  c2 : W.cell? ⟨g, 2, none⟩ = some (.int .i64 (hi Z))
  c3 : W.cell? ⟨g, 3, none⟩ = some (.int .i64 (lo X))
  c4 : W.cell? ⟨g, 4, none⟩ = some (.int .i64 (lo Y))
  c5 : W.cell? ⟨g, 5, none⟩ = some (.int .i64 (lo Z))
  f0 : W.frozen? ⟨g, 0, none⟩ = false
  f1 : W.frozen? ⟨g, 1, none⟩ = false
  f2 : W.frozen? ⟨g, 2, none⟩ = false
  f3 : W.frozen? ⟨g, 3, none⟩ = false
  f4 : W.frozen? ⟨g, 4, none⟩ = false
  f5 : W.frozen? ⟨g, 5, none⟩ = false
  lt : g < W.heap.size
def AddPost (w : World) (g : Nat) (X Y Z : Int) (e : Ending) (w' : World) : Prop := e = .returned (.tuple #[]) ∧ w.grownBy w' (some g) ∧ TotAt w' g X Y Z
theorem TotAt.on {W W' : World} {g : Nat} {X Y Z : Int} (h : TotAt W g X Y Z) (hb : W'.heap[g]? = W.heap[g]?) : TotAt W' g X Y Z := by
  have hl : g < W'.heap.size := by
    have := h.lt
    rcases Nat.lt_or_ge g W'.heap.size with hh | hh
    · exact hh
    · rw [Array.getElem?_eq_none hh, Array.getElem?_eq_getElem this] at hb; cases hb
  have c : ∀ k, W'.cell? ⟨g, k, none⟩ = W.cell? ⟨g, k, none⟩ := fun k => World.cell?_of_block (w := W) hb
  have f : ∀ k, W'.frozen? ⟨g, k, none⟩ = W.frozen? ⟨g, k, none⟩ := fun k => by simp [World.frozen?, hb]
  obtain ⟨c0, c1, c2, c3, c4, c5, f0, f1, f2, f3, f4, f5, lt⟩ := h
  exact ⟨(c 0).trans c0, (c 1).trans c1, (c 2).trans c2, (c 3).trans c3, (c 4).trans c4, (c 5).trans c5, (f 0).trans f0, (f 1).trans f1, (f 2).trans f2, (f 3).trans f3, (f 4).trans f4, (f 5).trans f5, hl⟩
theorem TotAt.box {W : World} {g : Nat} {X Y Z x y z : Int} (h : TotAt W g X Y Z) : TS W (W.alloc (.cells #[.int .i64 x, .int .i64 y, .int .i64 z] 28)) g W.heap.size (hi X) (hi Y) (hi Z) (lo X) (lo Y) (lo Z) x y z := by
  have hb : (W.alloc (.cells #[.int .i64 x, .int .i64 y, .int .i64 z] 28)).heap[g]? = W.heap[g]? := ((Below.refl W.heap.size W).alloc (Nat.le_refl _) _).block g h.lt
  have h' := h.on hb
  have lt := h.lt
  obtain ⟨c0, c1, c2, c3, c4, c5, f0, f1, f2, f3, f4, f5, _⟩ := h'
  refine ⟨c0, c1, c2, c3, c4, c5, f0, f1, f2, f3, f4, f5, ?_, ?_, ?_, World.grownBy_alloc _ _ _, lt⟩ <;> simp [go_sem]
set_option maxHeartbeats 1000000 in
theorem add_raw (g : Nat) (h0 h1 h2 l0 l1 l2 x y z h0' h1' h2' l0' l1' l2' s0 s1 s2 k0 k1 k2 g0 g1 g2 : Int) (w : World)
    (T : TS w (w.alloc (.cells #[.int .i64 x, .int .i64 y, .int .i64 z] 28)) g w.heap.size h0 h1 h2 l0 l1 l2 x y z)
    (u0 : Up l0 x h0 l0' h0' s0 k0 g0) (u1 : Up l1 y h1 l1' h1' s1 k1 g1) (u2 : Up l2 z h2 l2' h2' s2 k2 g2) :
    Calls Tryz.prog 156 #[.pointer (some ⟨g, 0, none⟩), .agg #[.int .i64 x, .int .i64 y, .int .i64 z]] w fun e w' => e = .returned (.tuple #[]) ∧ TS w w' g w.heap.size h0' h1' h2' l0' l1' l2' x y z := by
  have sc0 := Lib.hid (fun W : World => (sign_any x W u0.b0 u0.b1).mono fun _ _ h => (⟨h.1, h.2.symm⟩ : _ ∧ _))
  have sc1 := Lib.hid (fun W : World => (sign_any y W u1.b0 u1.b1).mono fun _ _ h => (⟨h.1, h.2.symm⟩ : _ ∧ _))
  have sc2 := Lib.hid (fun W : World => (sign_any z W u2.b0 u2.b1).mono fun _ _ h => (⟨h.1, h.2.symm⟩ : _ ∧ _))
  obtain ⟨a1, a2, a3, a4, a5, a6, a7⟩ := u0
  obtain ⟨b1, b2, b3, b4, b5, b6, b7⟩ := u1
  obtain ⟨e1, e2, e3, e4, e5, e6, e7⟩ := u2
  generalize sg x = x' at *
  generalize sg y = y' at *
  generalize sg z = z' at *
  have TT := Lib.hid T
  clear T
  go_enter Tryz.func156, Tryz.ntmps156
  go_wp2_with fail
  refine wp_loop_rounds 4 ?_
  refine rounds_forget (fun W => TS w W g w.heap.size h0 h1 h2 l0 l1 l2 x y z) TT.out ?_
  clear TT
  intro W T
  rw [rounds_succ]
  obtain ⟨c0, c1, c2, c3, c4, c5, f0, f1, f2, f3, f4, f5, d0, d1, d2, gb, ne⟩ := T
  have T := Lib.hid (TS.mk c0 c1 c2 c3 c4 c5 f0 f1 f2 f3 f4 f5 d0 d1 d2 gb ne)
  clear gb ne
  go_wp2_with fail
  go_quiet (fail)
  go_wp2_with fail
  refine wp_region_still_tail 17 (by kernel_rfl) (by kernel_rfl) ?_
  simp only [List.take_succ_cons, List.take_zero, List.drop_succ_cons, List.drop_zero]
  change wpStill _ _ (World.drew _) _ _ _
  repeat still_step
  still_call (sc0.out _)
  repeat still_step
  refine wpStill_nil ?_
  change wpList _ _ _ _ _ (World.drew _)
  go_wp2_with fail
  clear c0 c1 c2 c3 c4 c5 f0 f1 f2 f3 f4 f5 d0 d1 d2
  refine rounds_forget (fun W => TS w W g w.heap.size h0' h1 h2 l0' l1 l2 x y z) (T.out.next0 nq _ _) ?_
  clear T
  intro W T
  rw [rounds_succ]
  obtain ⟨c0, c1, c2, c3, c4, c5, f0, f1, f2, f3, f4, f5, d0, d1, d2, gb, ne⟩ := T
  have T := Lib.hid (TS.mk c0 c1 c2 c3 c4 c5 f0 f1 f2 f3 f4 f5 d0 d1 d2 gb ne)
  clear gb ne
  go_wp2_with fail
  go_quiet (fail)
  go_wp2_with fail
  refine wp_region_still_tail 17 (by kernel_rfl) (by kernel_rfl) ?_
  simp only [List.take_succ_cons, List.take_zero, List.drop_succ_cons, List.drop_zero]
  change wpStill _ _ (World.drew _) _ _ _
  repeat still_step
  still_call (sc1.out _)
  repeat still_step
  refine wpStill_nil ?_
  change wpList _ _ _ _ _ (World.drew _)
  go_wp2_with fail
  clear c0 c1 c2 c3 c4 c5 f0 f1 f2 f3 f4 f5 d0 d1 d2
  refine rounds_forget (fun W => TS w W g w.heap.size h0' h1' h2 l0' l1' l2 x y z) (T.out.next1 nq _ _) ?_
  clear T
  intro W T
  rw [rounds_succ]
  obtain ⟨c0, c1, c2, c3, c4, c5, f0, f1, f2, f3, f4, f5, d0, d1, d2, gb, ne⟩ := T
  have T := Lib.hid (TS.mk c0 c1 c2 c3 c4 c5 f0 f1 f2 f3 f4 f5 d0 d1 d2 gb ne)
  clear gb ne
  go_wp2_with fail
  go_quiet (fail)
  go_wp2_with fail
  refine wp_region_still_tail 17 (by kernel_rfl) (by kernel_rfl) ?_
  simp only [List.take_succ_cons, List.take_zero, List.drop_succ_cons, List.drop_zero]
  change wpStill _ _ (World.drew _) _ _ _
  repeat still_step
  still_call (sc2.out _)
  repeat still_step
  refine wpStill_nil ?_
  change wpList _ _ _ _ _ (World.drew _)
  go_wp2_with fail
  clear c0 c1 c2 c3 c4 c5 f0 f1 f2 f3 f4 f5 d0 d1 d2
  refine rounds_forget (fun W => TS w W g w.heap.size h0' h1' h2' l0' l1' l2' x y z) (T.out.next2 nq _ _) ?_
  clear T
  intro W T
  rw [rounds_succ]
  go_wp2_with fail
  go_end0
  exact ⟨rfl, T⟩
theorem TS.tot {W0 W : World} {g b : Nat} {X Y Z x y z : Int} (h : TS W0 W g b (hi X) (hi Y) (hi Z) (lo X) (lo Y) (lo Z) x y z) (hl : g < W0.heap.size) : TotAt W g X Y Z := by
  obtain ⟨c0, c1, c2, c3, c4, c5, f0, f1, f2, f3, f4, f5, d0, d1, d2, gb, ne⟩ := h
  exact ⟨c0, c1, c2, c3, c4, c5, f0, f1, f2, f3, f4, f5, Nat.lt_of_lt_of_le hl gb.size⟩
theorem add_any (g : Nat) (X Y Z x y z : Int) (w : World) (T : TotAt w g X Y Z) (bX : Big X) (bY : Big Y) (bZ : Big Z) (bx : I64 x) (by' : I64 y) (bz : I64 z) :
    Calls Tryz.prog 156 #[.pointer (some ⟨g, 0, none⟩), .agg #[.int .i64 x, .int .i64 y, .int .i64 z]] w (AddPost w g (X + x) (Y + y) (Z + z)) :=
  (add_raw g _ _ _ _ _ _ x y z _ _ _ _ _ _ _ _ _ _ _ _ _ _ _ w T.box (up_of X x bX bx) (up_of Y y bY by') (up_of Z z bZ bz)).mono fun _ _ h => ⟨h.1, h.2.gb, h.2.tot T.lt⟩
end Go.Proofs.YtphclpjekpdifaaGreat.Vc
namespace Go.Proofs.YtphclpjekpdifaaGreat.Vc
set_option maxRecDepth 20000
open Go.RowKit
set_option linter.unusedVariables false
def vecV (x y z e : Int) : Value := .tuple #[.agg #[.int .i64 x, .int .i64 y, .int .i64 z], .int .i64 e]
instance (x : Int) : Decidable (I64 x) := inferInstanceAs (Decidable (_ ∧ _))
def outV (X Y Z : Int) : Value := if I64 X ∧ I64 Y ∧ I64 Z then vecV X Y Z 0 else vecV 0 0 0 6
theorem below_drewN {n : Nat} {a b : World} (h : Below n a b) (k : Nat) : Below n a (b.drewN k) := ⟨h.os, h.tape, h.output, h.size, h.block⟩
theorem lo_in (T : Int) : -9223372036854775808 ≤ lo T ∧ lo T ≤ 9223372036854775807 := by unfold lo; omega
theorem fit_iff (T : Int) : (hi T = sg (lo T)) ↔ I64 T := by unfold hi sg lo I64; omega
theorem lo_fit (T : Int) (h : I64 T) : lo T = T := by unfold I64 at h; unfold lo; omega
set_option maxHeartbeats 1000000 in
theorem vec_any (g : Nat) (X Y Z : Int) (w : World) (T : TotAt w g X Y Z) : Calls Tryz.prog 158 #[.pointer (some ⟨g, 0, none⟩)] w (RetBelow (outV X Y Z) w) := by
  have sc0 := Lib.hid (fun W : World => sign_any (lo X) W (lo_in X).1 (lo_in X).2)
  have sc1 := Lib.hid (fun W : World => sign_any (lo Y) W (lo_in Y).1 (lo_in Y).2)
  have sc2 := Lib.hid (fun W : World => sign_any (lo Z) W (lo_in Z).1 (lo_in Z).2)
  have hz := build23_0
  by_cases hf : I64 X ∧ I64 Y ∧ I64 Z
  · have hq := fun W => eq23 (hi X) (hi Y) (hi Z) (sg (lo X)) (sg (lo Y)) (sg (lo Z)) W
    rw [eqV_iff.2 ⟨(fit_iff X).2 hf.1, (fit_iff Y).2 hf.2.1, (fit_iff Z).2 hf.2.2⟩] at hq
    rw [show outV X Y Z = vecV (lo X) (lo Y) (lo Z) 0 from by unfold outV; rw [if_pos hf, lo_fit X hf.1, lo_fit Y hf.2.1, lo_fit Z hf.2.2]]
    clear hf
    obtain ⟨c0, c1, c2, c3, c4, c5, f0, f1, f2, f3, f4, f5, lt⟩ := T
    generalize sg (lo X) = p at *
    generalize sg (lo Y) = q at *
    generalize sg (lo Z) = r at *
    generalize hi X = h0 at *
    generalize hi Y = h1 at *
    generalize hi Z = h2 at *
    generalize lo X = l0 at *
    generalize lo Y = l1 at *
    generalize lo Z = l2 at *
    go_enter Tryz.func158, Tryz.ntmps158
    go_wp2_with fail
    refine wp_loop_rounds 4 ?_
    rw [rounds_succ]
    go_wp2_with (go_at_call 194; refine (sc0.out _).mono ?_; rintro e w' ⟨rfl, rfl⟩)
    rw [rounds_succ]
    go_wp2_with (go_at_call 194; refine (sc1.out _).mono ?_; rintro e w' ⟨rfl, rfl⟩)
    rw [rounds_succ]
    go_wp2_with (go_at_call 194; refine (sc2.out _).mono ?_; rintro e w' ⟨rfl, rfl⟩)
    rw [rounds_succ]
    go_wp2_with fail
    go_quiet (fail)
    go_wp2_with fail
    exact bodyPost_ret (v := vecV l0 l1 l2 0) (by simp [vecV, results, Tryz.results158, go_sem]) rfl
      ⟨rfl, (((below_drewN (((Below.refl _ _).alloc (Nat.le_refl _) _).alloc (by simp) _) _).setCell (Nat.le_refl _) _).setCell (Nat.le_refl _) _).setCell (Nat.le_refl _) _⟩
  · have hq := fun W => eq23 (hi X) (hi Y) (hi Z) (sg (lo X)) (sg (lo Y)) (sg (lo Z)) W
    rw [eqV_ne fun h => hf ⟨(fit_iff X).1 h.1, (fit_iff Y).1 h.2.1, (fit_iff Z).1 h.2.2⟩] at hq
    rw [show outV X Y Z = vecV 0 0 0 6 from by unfold outV; rw [if_neg hf]]
    clear hf
    obtain ⟨c0, c1, c2, c3, c4, c5, f0, f1, f2, f3, f4, f5, lt⟩ := T
    generalize sg (lo X) = p at *
    generalize sg (lo Y) = q at *
    generalize sg (lo Z) = r at *
    generalize hi X = h0 at *
    generalize hi Y = h1 at *
    generalize hi Z = h2 at *
    generalize lo X = l0 at *
    generalize lo Y = l1 at *
    generalize lo Z = l2 at *
    go_enter Tryz.func158, Tryz.ntmps158
    go_wp2_with fail
    refine wp_loop_rounds 4 ?_
    rw [rounds_succ]
    go_wp2_with (go_at_call 194; refine (sc0.out _).mono ?_; rintro e w' ⟨rfl, rfl⟩)
    rw [rounds_succ]
    go_wp2_with (go_at_call 194; refine (sc1.out _).mono ?_; rintro e w' ⟨rfl, rfl⟩)
    rw [rounds_succ]
    go_wp2_with (go_at_call 194; refine (sc2.out _).mono ?_; rintro e w' ⟨rfl, rfl⟩)
    rw [rounds_succ]
    go_wp2_with fail
    go_quiet (fail)
    go_wp2_with fail
    exact bodyPost_ret (v := vecV 0 0 0 6) (by simp [vecV, results, Tryz.results158, go_sem]) rfl
      ⟨rfl, (((below_drewN (((Below.refl _ _).alloc (Nat.le_refl _) _).alloc (by simp) _) _).setCell (Nat.le_refl _) _).setCell (Nat.le_refl _) _).setCell (Nat.le_refl _) _⟩
end Go.Proofs.YtphclpjekpdifaaGreat.Vc
namespace Go.Proofs.YtphclpjekpdifaaGreat.Vc
set_option maxRecDepth 20000
open Go.RowKit
set_option linter.unusedVariables false
theorem TotAt.zero (w : World) : TotAt (w.alloc (.cells #[.int .i64 0, .int .i64 0, .int .i64 0, .int .i64 0, .int .i64 0, .int .i64 0] 234)) w.heap.size 0 0 0 := by
  have e1 : hi 0 = 0 := by decide
  have e2 : lo 0 = 0 := by decide
  constructor
  all_goals first | (rw [e1]; simp [go_sem]) | (rw [e2]; simp [go_sem]) | simp [go_sem]
theorem big0 : Big 0 := by unfold Big; omega
theorem big_of (x : Int) (h : I64 x) : Big (0 + x) := by unfold I64 at h; unfold Big; omega
def BK (W : World) (b : Nat) (x y z : Int) : Prop := W.heap[b]? = some (.cells #[.int .i64 x, .int .i64 y, .int .i64 z] 28 (0, 0))
theorem BK.c3 {W : World} {b : Nat} {x y z : Int} (h : BK W b x y z) : C3 W b x y z := by
  unfold BK at h
  refine ⟨?_, ?_, ?_⟩ <;> (rw [cell_of_row _ _ _ _ _ _ h]; rfl)
theorem BK.new (w : World) (x y z : Int) : BK (w.alloc (.cells #[.int .i64 x, .int .i64 y, .int .i64 z] 28)) w.heap.size x y z := heap_alloc_new w _
theorem BK.f0 {W : World} {b : Nat} {x y z : Int} (h : BK W b x y z) (k : Nat) : W.frozen? ⟨b, k, none⟩ = false := by
  unfold BK at h
  simp [World.frozen?, h]
theorem BK.lt {W : World} {b : Nat} {x y z : Int} (h : BK W b x y z) : b < W.heap.size := by
  unfold BK at h
  rcases Nat.lt_or_ge b W.heap.size with hh | hh
  · exact hh
  · rw [Array.getElem?_eq_none hh] at h; cases h
theorem BK.on {W W' : World} {b n : Nat} {x y z : Int} (h : BK W b x y z) (hb : Below n W W') (hl : b < n) : BK W' b x y z := (hb.block b hl).trans h
theorem BK.grown {W W' : World} {b g : Nat} {x y z : Int} (h : BK W b x y z) (hb : W.grownBy W' (some g)) (hl : b ≠ g) : BK W' b x y z := (hb.block b h.lt (by simpa using hl)).trans h
theorem BK.alloc {W : World} {b : Nat} {x y z : Int} (h : BK W b x y z) (o : Obj) : BK (W.alloc o) b x y z := h.on ((Below.refl _ W).alloc (Nat.le_refl _) o) h.lt
theorem outV_form (X Y Z : Int) : ∃ p q r e, outV X Y Z = .tuple #[.agg #[.int .i64 p, .int .i64 q, .int .i64 r], .int .i64 e] := by
  unfold outV
  split
  · exact ⟨_, _, _, _, rfl⟩
  · exact ⟨_, _, _, _, rfl⟩
structure V3 where
  x : Int
  y : Int
  z : Int
def VecsAt (w : World) (B : Nat) (A : Option Addr) (L : List V3) : Prop :=
  L ≠ [] → ∃ b off, A = some ⟨b, off, none⟩ ∧ b < B ∧ ∀ j v, L[j]? = some v → w.cell? ⟨b, off + j * 3, none⟩ = some (.int .i64 v.x) ∧ w.cell? ⟨b, off + j * 3 + 1, none⟩ = some (.int .i64 v.y) ∧ w.cell? ⟨b, off + j * 3 + 2, none⟩ = some (.int .i64 v.z)
theorem VecsAt.on {w w' : World} {B : Nat} {A : Option Addr} {L : List V3} (h : VecsAt w B A L) (hb : Below B w w') : VecsAt w' B A L := fun hne => by
  obtain ⟨b, off, h1, h2, h3⟩ := h hne
  refine ⟨b, off, h1, h2, fun j v hv => ?_⟩
  obtain ⟨a1, a2, a3⟩ := h3 j v hv
  exact ⟨(hb.cell (p := ⟨b, _, none⟩) h2).trans a1, (hb.cell (p := ⟨b, _, none⟩) h2).trans a2, (hb.cell (p := ⟨b, _, none⟩) h2).trans a3⟩
theorem VecsAt.mono {w : World} {B B' : Nat} {A : Option Addr} {L : List V3} (h : VecsAt w B A L) (hB : B ≤ B') : VecsAt w B' A L := fun hne => by
  obtain ⟨b, off, h1, h2, h3⟩ := h hne
  exact ⟨b, off, h1, by omega, h3⟩
def Vok (v : V3) : Prop := I64 v.x ∧ I64 v.y ∧ I64 v.z
def sumI (l : List Int) : Int := l.foldr (· + ·) 0
theorem sumI_append (a b : List Int) : sumI (a ++ b) = sumI a + sumI b := by
  induction a with
  | nil => simp [sumI]
  | cons x r ih => simp only [sumI, List.cons_append, List.foldr_cons] at ih ⊢; omega
theorem sumI_bd (l : List Int) (h : ∀ x ∈ l, I64 x) : -9223372036854775808 * (l.length : Int) ≤ sumI l ∧ sumI l ≤ 9223372036854775808 * (l.length : Int) := by
  induction l with
  | nil => simp [sumI]
  | cons x r ih =>
    have h1 := h x (by simp)
    have h2 := ih fun y hy => h y (by simp [hy])
    unfold I64 at h1
    have e : sumI (x :: r) = x + sumI r := rfl
    rw [e, List.length_cons]
    push_cast
    omega
theorem sumI_big (l : List Int) (h : ∀ x ∈ l, I64 x) (hn : l.length ≤ 100000) : Big (sumI l) := by
  have := sumI_bd l h
  unfold Big
  omega
def sX (L : List V3) : Int := sumI (L.map (·.x))
def sY (L : List V3) : Int := sumI (L.map (·.y))
def sZ (L : List V3) : Int := sumI (L.map (·.z))
theorem s_snoc (L : List V3) (k : Nat) (v : V3) (h : L[k]? = some v) : sX (L.take (k + 1)) = sX (L.take k) + v.x ∧ sY (L.take (k + 1)) = sY (L.take k) + v.y ∧ sZ (L.take (k + 1)) = sZ (L.take k) + v.z := by
  have hk := (List.getElem?_eq_some_iff.1 h).1
  have hv := (List.getElem?_eq_some_iff.1 h).2
  rw [List.take_succ_eq_append_getElem hk, hv]
  simp only [sX, sY, sZ, List.map_append, sumI_append]
  simp [sumI]
theorem s_big (L : List V3) (h : ∀ v ∈ L, Vok v) (hn : L.length ≤ 100000) : Big (sX L) ∧ Big (sY L) ∧ Big (sZ L) := by
  refine ⟨sumI_big _ ?_ (by simpa using hn), sumI_big _ ?_ (by simpa using hn), sumI_big _ ?_ (by simpa using hn)⟩
  all_goals
    intro x hx
    obtain ⟨v, hv, rfl⟩ := List.mem_map.1 hx
    have := h v hv
    simp [Vok] at this
    first | exact this.1 | exact this.2.1 | exact this.2.2
def SumRel (w : World) (L : List V3) (i : Value) (wr : World) : Prop := ∃ k : Nat, k ≤ L.length ∧ i = .int .i64 k ∧ Below w.heap.size w wr ∧ TotAt wr (w.heap.size + 1) (sX (L.take k)) (sY (L.take k)) (sZ (L.take k)) ∧ BK wr w.heap.size 0 0 0
set_option maxHeartbeats 1000000 in
theorem sum_any (L : List V3) (A : Option Addr) (n cap : Nat) (w : World) (hb : VecsAt w w.heap.size A L) (hn : L.length = n) (hok : ∀ v ∈ L, Vok v) (hl : n ≤ 100000) :
    Calls Tryz.prog 189 #[.slice A n cap] w (RetBelow (outV (sX L) (sY L) (sZ L)) w) := by
  have HN := Lib.hid hn
  have HB := Lib.hid hb
  have HO := Lib.hid hok
  clear hn hb hok
  have c3 := Lib.hid fun (W : World) (g : Nat) (T : TotAt W g (sX L) (sY L) (sZ L)) => vec_any g _ _ _ W T
  obtain ⟨p, q, r, e, he⟩ := outV_form (sX L) (sY L) (sZ L)
  rw [he] at c3 ⊢
  clear he
  go_enter Tryz.func189, Tryz.ntmps189
  go_wp2_with fail
  have T0 := TotAt.zero (w.alloc (.cells #[.int .i64 0, .int .i64 0, .int .i64 0] 28))
  have K0 := (BK.new w 0 0 0).alloc (.cells #[.int .i64 0, .int .i64 0, .int .i64 0, .int .i64 0, .int .i64 0, .int .i64 0] 234)
  have B0 : Below w.heap.size w ((w.alloc (.cells #[.int .i64 0, .int .i64 0, .int .i64 0] 28)).alloc (.cells #[.int .i64 0, .int .i64 0, .int .i64 0, .int .i64 0, .int .i64 0, .int .i64 0] 234)) := ((Below.refl _ _).alloc (Nat.le_refl _) _).alloc (by simp) _
  simp only [World.size_alloc] at T0
  generalize ((w.alloc (.cells #[.int .i64 0, .int .i64 0, .int .i64 0] 28)).alloc (.cells #[.int .i64 0, .int .i64 0, .int .i64 0, .int .i64 0, .int .i64 0, .int .i64 0] 234)) = W0 at *
  have R0 : SumRel w L (.int .i64 0) W0 := ⟨0, by omega, rfl, B0, T0, K0⟩
  have HR := Lib.hid R0
  clear T0 K0 B0 R0
  go_loopw [9] (SumRel w L) (fun i _ => n - (intOf i).toNat)
  case atStart => exact HR.out
  case round =>
    clear HR
    obtain ⟨k, hk, rfl, bel, T, K⟩ := hrel
    by_cases hlt : k < n
    · have hkl : k < L.length := by rw [HN.out]; exact hlt
      obtain ⟨b, off, rfl, hb1, hb2⟩ := HB.out (fun e => by rw [e] at hkl; simp at hkl)
      have hv : L[k]? = some L[k] := List.getElem?_eq_getElem hkl
      obtain ⟨a1, a2, a3⟩ := hb2 k _ hv
      have d1 := (bel.cell (p := ⟨b, _, none⟩) hb1).trans a1
      have d2 := (bel.cell (p := ⟨b, _, none⟩) hb1).trans a2
      have d3 := (bel.cell (p := ⟨b, _, none⟩) hb1).trans a3
      have hs := s_snoc L k _ hv
      have hbg := s_big (L.take k) (fun v hv => HO.out v (List.mem_of_mem_take hv)) (by simp; omega)
      have hvk := HO.out L[k] (List.getElem_mem hkl)
      have BE := Lib.hid bel
      have HT := Lib.hid T
      have HK := Lib.hid K
      clear hb2 a1 a2 a3 hv bel T K
      go_wp2_with fail
      refine (add_any _ _ _ _ _ _ _ _ (HT.out.on (((Below.refl _ wr).alloc (Nat.le_refl _) _).block _ HT.out.lt)) hbg.1 hbg.2.1 hbg.2.2 hvk.1 hvk.2.1 hvk.2.2).mono ?_
      rintro _ w1 ⟨rfl, g1, T1⟩
      rw [← hs.1, ← hs.2.1, ← hs.2.2] at T1
      have ba : Below wr.heap.size wr (wr.alloc (.cells #[.int .i64 L[k].x, .int .i64 L[k].y, .int .i64 L[k].z] 28)) := (Below.refl _ wr).alloc (Nat.le_refl _) _
      have H1 : Hid (Below w.heap.size w w1) := Lib.hid ((BE.out.alloc BE.out.size _).grown g1 (by have := BE.out.size; simp; omega) (by intro j hj; cases hj; omega))
      have K1 : Hid (BK w1 w.heap.size 0 0 0) := Lib.hid ((HK.out.alloc _).grown g1 (by omega))
      have HT1 := Lib.hid T1
      clear g1 T1 ba hs hbg hvk
      go_wp2_with fail
      go_roundw
      case rel => exact ⟨k + 1, by omega, by go_num, H1.out, HT1.out, K1.out⟩
      case measure => simp [intOf]; omega
    · obtain rfl : k = n := by have := HN.out; omega
      rw [List.take_of_length_le (by rw [HN.out]; exact Nat.le_refl _)] at T
      have BE := Lib.hid bel
      have HT := Lib.hid T
      have HK := Lib.hid K
      clear bel T K
      go_wp2_with fail
      refine (c3.out _ _ HT.out).mono ?_
      rintro _ w3 ⟨rfl, hb⟩
      have H3 : Hid (Below w.heap.size w w3) := Lib.hid (BE.out.trans (hb.mono BE.out.size))
      have P2 : BK w3 w.heap.size 0 0 0 := HK.out.on hb HK.out.lt
      obtain ⟨d0, d1, d2⟩ := P2.c3
      have f0 := P2.f0 0
      have f1 := P2.f0 1
      have f2 := P2.f0 2
      clear P2 HK HT hb
      go_wp2_with fail
      exact bodyPost_ret (v := .tuple #[.agg #[.int .i64 p, .int .i64 q, .int .i64 r], .int .i64 e]) (by simp [results, Tryz.results189, go_sem, d0, d1, d2]) rfl
        ⟨rfl, ((H3.out.setCell (Nat.le_refl _) _).setCell (Nat.le_refl _) _).setCell (Nat.le_refl _) _⟩
theorem vecs_new (w : World) (cs : Array Value) (L : List V3) (h : ∀ j v, L[j]? = some v → cs[0 + j * 3]? = some (.int .i64 v.x) ∧ cs[0 + j * 3 + 1]? = some (.int .i64 v.y) ∧ cs[0 + j * 3 + 2]? = some (.int .i64 v.z)) :
    VecsAt (w.alloc (.cells cs 28)) (w.alloc (.cells cs 28)).heap.size (some ⟨w.heap.size, 0, none⟩) L := fun _ =>
  ⟨w.heap.size, 0, rfl, by simp, fun j v hv => by
    obtain ⟨a, b, c⟩ := h j v hv
    have e := heap_alloc_new w (.cells cs 28)
    exact ⟨(cell_of_row _ _ _ _ _ _ e).trans a, (cell_of_row _ _ _ _ _ _ e).trans b, (cell_of_row _ _ _ _ _ _ e).trans c⟩⟩
theorem vecs_2 (w : World) (a b c x y z : Int) : VecsAt (w.alloc (.cells #[.int .i64 a, .int .i64 b, .int .i64 c, .int .i64 x, .int .i64 y, .int .i64 z] 28)) (w.alloc (.cells #[.int .i64 a, .int .i64 b, .int .i64 c, .int .i64 x, .int .i64 y, .int .i64 z] 28)).heap.size (some ⟨w.heap.size, 0, none⟩) [⟨a, b, c⟩, ⟨x, y, z⟩] :=
  vecs_new w _ _ fun j v hv => by
    match j with
    | 0 => simp at hv; subst hv; exact ⟨rfl, rfl, rfl⟩
    | 1 => simp at hv; subst hv; exact ⟨rfl, rfl, rfl⟩
    | j + 2 => simp at hv
theorem sum2 (a b c x y z : Int) (w : World) (ba : I64 a) (bb : I64 b) (bc : I64 c) (bx : I64 x) (by' : I64 y) (bz : I64 z) : Calls Tryz.prog 189 #[.slice (some ⟨w.heap.size, 0, none⟩) 2 2] (w.alloc (.cells #[.int .i64 a, .int .i64 b, .int .i64 c, .int .i64 x, .int .i64 y, .int .i64 z] 28))
    (RetBelow (outV (a + x) (b + y) (c + z)) (w.alloc (.cells #[.int .i64 a, .int .i64 b, .int .i64 c, .int .i64 x, .int .i64 y, .int .i64 z] 28))) := by
  have := sum_any _ _ 2 2 _ (vecs_2 w a b c x y z) rfl (by intro v hv; simp at hv; rcases hv with rfl | rfl; exact ⟨ba, bb, bc⟩; exact ⟨bx, by', bz⟩) (by omega)
  simpa [sX, sY, sZ, sumI] using this
theorem add_ret (a b c x y z : Int) (w : World) (ba : I64 a) (bb : I64 b) (bc : I64 c) (bx : I64 x) (by' : I64 y) (bz : I64 z) :
    Calls Tryz.prog 154 #[.agg #[.int .i64 a, .int .i64 b, .int .i64 c], .agg #[.int .i64 x, .int .i64 y, .int .i64 z]] w (RetBelow (outV (a + x) (b + y) (c + z)) w) := by
  have cs := Lib.hid fun W : World => sum2 a b c x y z W ba bb bc bx by' bz
  obtain ⟨p, q, r, e, he⟩ := outV_form (a + x) (b + y) (c + z)
  rw [he] at cs ⊢
  clear he ba bb bc bx by' bz
  go_enter Tryz.func154, Tryz.ntmps154
  go_wp2_with fail
  have K2 := (BK.new ((w.alloc (.cells #[.int .i64 a, .int .i64 b, .int .i64 c] 28)).alloc (.cells #[.int .i64 x, .int .i64 y, .int .i64 z] 28)) 0 0 0).alloc (.cells #[.int .i64 a, .int .i64 b, .int .i64 c, .int .i64 x, .int .i64 y, .int .i64 z] 28)
  have B0 : Below w.heap.size w ((((w.alloc (.cells #[.int .i64 a, .int .i64 b, .int .i64 c] 28)).alloc (.cells #[.int .i64 x, .int .i64 y, .int .i64 z] 28)).alloc (.cells #[.int .i64 0, .int .i64 0, .int .i64 0] 28)).alloc (.cells #[.int .i64 a, .int .i64 b, .int .i64 c, .int .i64 x, .int .i64 y, .int .i64 z] 28)) := ((((Below.refl _ _).alloc (Nat.le_refl _) _).alloc (by simp) _).alloc (by simp; omega) _).alloc (by simp; omega) _
  have C0 := cs.out (((w.alloc (.cells #[.int .i64 a, .int .i64 b, .int .i64 c] 28)).alloc (.cells #[.int .i64 x, .int .i64 y, .int .i64 z] 28)).alloc (.cells #[.int .i64 0, .int .i64 0, .int .i64 0] 28))
  simp only [World.size_alloc] at K2 C0
  refine C0.mono ?_
  rintro _ w3 ⟨rfl, hb⟩
  have H3 : Hid (Below w.heap.size w w3) := Lib.hid (B0.trans (hb.mono B0.size))
  have P2 : BK w3 (w.heap.size + 1 + 1) 0 0 0 := K2.on hb K2.lt
  obtain ⟨d0, d1, d2⟩ := P2.c3
  have f0 := P2.f0 0
  have f1 := P2.f0 1
  have f2 := P2.f0 2
  clear P2 K2 hb B0 C0
  go_wp2_with fail
  exact bodyPost_ret (v := .tuple #[.agg #[.int .i64 p, .int .i64 q, .int .i64 r], .int .i64 e]) (by simp [results, Tryz.results154, go_sem, d0, d1, d2]) rfl
    ⟨rfl, ((H3.out.setCell (by show _ ≤ w.heap.size + 1 + 1; omega) _).setCell (by show _ ≤ w.heap.size + 1 + 1; omega) _).setCell (by show _ ≤ w.heap.size + 1 + 1; omega) _⟩
end Go.Proofs.YtphclpjekpdifaaGreat.Vc
