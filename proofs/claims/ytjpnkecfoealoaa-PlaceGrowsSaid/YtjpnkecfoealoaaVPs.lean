import Derived.Test.YtjpnkecfoealoaaVLNone
namespace Go.Proofs.Ytjpnkecfoealoaa.Vc
set_option maxRecDepth 20000
open Go.RowKit
set_option linter.unusedVariables false
/-! plain facts on shares -/
theorem shr_whole (a b : Int) (a0 : 0 ≤ a) (b0 : 0 ≤ b) : shr a b = 1000 ↔ b ≤ a ∧ 0 < a := by
  unfold shr
  split
  · omega
  · split
    · omega
    · rename_i h1 h2
      constructor
      · intro h
        have : 1000 * b ≤ 1000 * a := by
          have := Int.ediv_mul_le (1000 * a) (show b ≠ 0 by omega)
          rw [h] at this
          exact this
        omega
      · intro ⟨h3, h4⟩
        have : a = b := by omega
        subst this
        exact Int.mul_ediv_cancel _ (by omega)
theorem shr_mono (a b c : Int) (a0 : 0 ≤ a) (b0 : 0 ≤ b) (h : a ≤ c) : shr a b ≤ shr c b := by
  have hb := shr_bd a b a0 b0
  unfold shr at hb ⊢
  by_cases h1 : b < c
  · rw [if_pos h1]; exact hb.2
  · rw [if_neg h1, if_neg (show ¬ b < a by omega)]
    by_cases h2 : b = 0
    · rw [if_pos h2, if_pos h2]; omega
    · rw [if_neg h2, if_neg h2]
      exact Int.ediv_le_ediv (by omega) (by omega)
theorem shr_down (a b c : Int) (a0 : 0 ≤ a) (b0 : 0 ≤ b) (c0 : 0 < c) (h : c ≤ b) : shr a b ≤ shr a c := by
  have hb := shr_bd a b a0 b0
  unfold shr at hb ⊢
  by_cases h1 : c < a
  · rw [if_pos h1]
    exact hb.2
  · rw [if_neg h1, if_neg (by omega), if_neg (by omega), if_neg (by omega)]
    rw [Int.le_ediv_iff_mul_le c0]
    have h2 := Int.ediv_mul_le (1000 * a) (show b ≠ 0 by omega)
    have h3 : 0 ≤ 1000 * a / b := Int.ediv_nonneg (by omega) b0
    have h4 : 1000 * a / b * c ≤ 1000 * a / b * b := Int.mul_le_mul_of_nonneg_left h h3
    omega
theorem mx_le {x y z : Int} : mx x y ≤ z ↔ x ≤ z ∧ y ≤ z := by unfold mx; split <;> omega
theorem le_mx (x y : Int) : x ≤ mx x y ∧ y ≤ mx x y := by unfold mx; split <;> omega
theorem mx_eq (x y : Int) : mx x y = x ∨ mx x y = y := by unfold mx; split <;> simp
theorem shV_le {a b c x y z u : Int} (hu : 0 ≤ u) (h1 : shr a x ≤ u) (h2 : shr b y ≤ u) (h3 : shr c z ≤ u) : shV a b c x y z ≤ u := by
  unfold shV
  simp only [mx_le]
  exact ⟨⟨⟨hu, h1⟩, h2⟩, h3⟩
theorem le_shV (a b c x y z : Int) : 0 ≤ shV a b c x y z ∧ shr a x ≤ shV a b c x y z ∧ shr b y ≤ shV a b c x y z ∧ shr c z ≤ shV a b c x y z := by
  unfold shV
  have h1 := le_mx 0 (shr a x)
  have h2 := le_mx (mx 0 (shr a x)) (shr b y)
  have h3 := le_mx (mx (mx 0 (shr a x)) (shr b y)) (shr c z)
  omega
/-- something is asked for whole, or too much -/
def wh (a x : Int) : Bool := decide (x ≤ a) && decide (0 < a)
theorem wh_iff {a x : Int} : wh a x = true ↔ x ≤ a ∧ 0 < a := by simp [wh]
theorem shV_whole {a b c x y z : Int} (ha : 0 ≤ a) (hb : 0 ≤ b) (hc : 0 ≤ c) (hx : 0 ≤ x) (hy : 0 ≤ y) (hz : 0 ≤ z) : (shV a b c x y z == 1000) = (wh a x || wh b y || wh c z) := by
  have l := le_shV a b c x y z
  have b1 := shr_bd a x ha hx
  have b2 := shr_bd b y hb hy
  have b3 := shr_bd c z hc hz
  have w1 := shr_whole a x ha hx
  have w2 := shr_whole b y hb hy
  have w3 := shr_whole c z hc hz
  have up : shV a b c x y z ≤ 1000 := shV_le (by omega) b1.2 b2.2 b3.2
  rw [Bool.eq_iff_iff, beq_iff_eq, Bool.or_eq_true, Bool.or_eq_true, wh_iff, wh_iff, wh_iff, ← w1, ← w2, ← w3]
  constructor
  · intro h
    rcases Int.lt_or_le (shr a x) 1000 with h1 | h1
    · rcases Int.lt_or_le (shr b y) 1000 with h2 | h2
      · rcases Int.lt_or_le (shr c z) 1000 with h3 | h3
        · have : shV a b c x y z ≤ 999 := shV_le (by omega) (by omega) (by omega) (by omega)
          omega
        · right; omega
      · left; right; omega
    · left; left; omega
  · intro h; omega
theorem fit_iff3 {a b c x y z : Int} : fitB a b c x y z = true ↔ a ≤ x ∧ b ≤ y ∧ c ≤ z := by simp [fitB, and_assoc]
end Go.Proofs.Ytjpnkecfoealoaa.Vc
