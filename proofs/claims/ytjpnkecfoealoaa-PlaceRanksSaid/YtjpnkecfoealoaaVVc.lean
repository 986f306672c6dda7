import Derived.Test.YtjpnkecfoealoaaVTot
namespace Go.Proofs.Ytjpnkecfoealoaa.Vc
set_option maxRecDepth 20000
open Go.RowKit
set_option linter.unusedVariables false
def vecV (x y z e : Int) : Value := .tuple #[.agg #[.int .i64 x, .int .i64 y, .int .i64 z], .int .i64 e]
instance (x : Int) : Decidable (I64 x) := inferInstanceAs (Decidable (_ ∧ _))
/-- what a total comes to -/
def outV (X Y Z : Int) : Value := if I64 X ∧ I64 Y ∧ I64 Z then vecV X Y Z 0 else vecV 0 0 0 6
theorem below_drewN {n : Nat} {a b : World} (h : Below n a b) (k : Nat) : Below n a (b.drewN k) := ⟨h.os, h.tape, h.output, h.size, h.block⟩
theorem lo_in (T : Int) : -9223372036854775808 ≤ lo T ∧ lo T ≤ 9223372036854775807 := by unfold lo; omega
theorem fit_iff (T : Int) : (hi T = sg (lo T)) ↔ I64 T := by unfold hi sg lo I64; omega
theorem lo_fit (T : Int) (h : I64 T) : lo T = T := by unfold I64 at h; unfold lo; omega
set_option maxHeartbeats 1000000 in
theorem vec_any (g : Nat) (X Y Z : Int) (w : World) (T : TotAt w g X Y Z) : Calls Try.prog 50 #[.pointer (some ⟨g, 0, none⟩)] w (RetBelow (outV X Y Z) w) := by
  have sc0 := Lib.hid (fun W : World => sign_any (lo X) W (lo_in X).1 (lo_in X).2)
  have sc1 := Lib.hid (fun W : World => sign_any (lo Y) W (lo_in Y).1 (lo_in Y).2)
  have sc2 := Lib.hid (fun W : World => sign_any (lo Z) W (lo_in Z).1 (lo_in Z).2)
  have hz := build23_0
  by_cases hf : I64 X ∧ I64 Y ∧ I64 Z
  · have hq := fun W => eq23 (hi X) (hi Y) (hi Z) (sg (lo X)) (sg (lo Y)) (sg (lo Z)) W
    rw [eqV_iff.2 ⟨(fit_iff X).2 hf.1, (fit_iff Y).2 hf.2.1, (fit_iff Z).2 hf.2.2⟩] at hq
    rw [show outV X Y Z = vecV (lo X) (lo Y) (lo Z) 0 from by unfold outV; rw [if_pos hf, lo_fit X hf.1, lo_fit Y hf.2.1, lo_fit Z hf.2.2]]
    clear hf
    obtain ⟨c0, c1, c2, c3, c4, c5, f0, f1, f2, f3, f4, f5, lt⟩ := T
    generalize sg (lo X) = p at *
    generalize sg (lo Y) = q at *
    generalize sg (lo Z) = r at *
    generalize hi X = h0 at *
    generalize hi Y = h1 at *
    generalize hi Z = h2 at *
    generalize lo X = l0 at *
    generalize lo Y = l1 at *
    generalize lo Z = l2 at *
    go_enter Try.func50, Try.ntmps50
    go_wp2_with fail
    refine wp_loop_rounds 4 ?_
    rw [rounds_succ]
    go_wp2_with (go_at_call 59; refine (sc0.out _).mono ?_; rintro e w' ⟨rfl, rfl⟩)
    rw [rounds_succ]
    go_wp2_with (go_at_call 59; refine (sc1.out _).mono ?_; rintro e w' ⟨rfl, rfl⟩)
    rw [rounds_succ]
    go_wp2_with (go_at_call 59; refine (sc2.out _).mono ?_; rintro e w' ⟨rfl, rfl⟩)
    rw [rounds_succ]
    go_wp2_with fail
    go_quiet (fail)
    go_wp2_with fail
    exact bodyPost_ret (v := vecV l0 l1 l2 0) (by simp [vecV, results, Try.results50, go_sem]) rfl
      ⟨rfl, (((below_drewN (((Below.refl _ _).alloc (Nat.le_refl _) _).alloc (by simp) _) _).setCell (Nat.le_refl _) _).setCell (Nat.le_refl _) _).setCell (Nat.le_refl _) _⟩
  · have hq := fun W => eq23 (hi X) (hi Y) (hi Z) (sg (lo X)) (sg (lo Y)) (sg (lo Z)) W
    rw [eqV_ne fun h => hf ⟨(fit_iff X).1 h.1, (fit_iff Y).1 h.2.1, (fit_iff Z).1 h.2.2⟩] at hq
    rw [show outV X Y Z = vecV 0 0 0 6 from by unfold outV; rw [if_neg hf]]
    clear hf
    obtain ⟨c0, c1, c2, c3, c4, c5, f0, f1, f2, f3, f4, f5, lt⟩ := T
    generalize sg (lo X) = p at *
    generalize sg (lo Y) = q at *
    generalize sg (lo Z) = r at *
    generalize hi X = h0 at *
    generalize hi Y = h1 at *
    generalize hi Z = h2 at *
    generalize lo X = l0 at *
    generalize lo Y = l1 at *
    generalize lo Z = l2 at *
    go_enter Try.func50, Try.ntmps50
    go_wp2_with fail
    refine wp_loop_rounds 4 ?_
    rw [rounds_succ]
    go_wp2_with (go_at_call 59; refine (sc0.out _).mono ?_; rintro e w' ⟨rfl, rfl⟩)
    rw [rounds_succ]
    go_wp2_with (go_at_call 59; refine (sc1.out _).mono ?_; rintro e w' ⟨rfl, rfl⟩)
    rw [rounds_succ]
    go_wp2_with (go_at_call 59; refine (sc2.out _).mono ?_; rintro e w' ⟨rfl, rfl⟩)
    rw [rounds_succ]
    go_wp2_with fail
    go_quiet (fail)
    go_wp2_with fail
    exact bodyPost_ret (v := vecV 0 0 0 6) (by simp [vecV, results, Try.results50, go_sem]) rfl
      ⟨rfl, (((below_drewN (((Below.refl _ _).alloc (Nat.le_refl _) _).alloc (by simp) _) _).setCell (Nat.le_refl _) _).setCell (Nat.le_refl _) _).setCell (Nat.le_refl _) _⟩
end Go.Proofs.Ytjpnkecfoealoaa.Vc
