import Derived.Test.YtjpnkecfoealoaaQc
import Derived.Test.YtjpnkecfoealoaaVDm
import Derived.Shelf.SlSortCmp.NoneTotal
namespace Go.Proofs.Ytjpnkecfoealoaa
set_option maxRecDepth 20000
open Go.RowKit
open Go.Proofs.Ytjpnkecfoealoaa.Nm (Gr)
set_option linter.unusedVariables false

/-- the order of indexes -/
def bef (sc : Nat → Int) (nm : Nat → List UInt8) (i j : Nat) : Bool :=
  if sc i = sc j then (if Nm.Pl.nums (nm i) = Nm.Pl.nums (nm j) then decide (i < j) else Nm.Pl.lt (Nm.Pl.nums (nm i)) (Nm.Pl.nums (nm j))) else decide (sc i < sc j)
theorem lt_asymm' {a b : List Nat} (h : Nm.Pl.lt a b = true) : Nm.Pl.lt b a = false := by
  have := Nm.Pl.lt_asymm a b
  rw [h, Bool.true_and] at this
  exact this
theorem cmp_bef (sc : Nat → Int) (nm : Nat → List UInt8) (i j : Nat) :
    decide (cmpI (aheadB (sc i) (sc j) (nm i) (nm j)) (aheadB (sc j) (sc i) (nm j) (nm i)) i j < 0) = bef sc nm i j := by
  unfold cmpI aheadB bef Nm.Pl.less
  by_cases h : sc i = sc j
  · rw [if_pos h, if_pos h.symm, if_pos h]
    by_cases h2 : Nm.Pl.nums (nm i) = Nm.Pl.nums (nm j)
    · rw [h2, Nm.Pl.lt_self, if_neg (by decide), if_neg (by decide), if_pos rfl, Bool.eq_iff_iff, decide_eq_true_iff, decide_eq_true_iff]
      omega
    · rw [if_neg h2]
      cases h3 : Nm.Pl.lt (Nm.Pl.nums (nm i)) (Nm.Pl.nums (nm j)) with
      | true => simp
      | false =>
        cases h4 : Nm.Pl.lt (Nm.Pl.nums (nm j)) (Nm.Pl.nums (nm i)) with
        | true => simp
        | false => exact absurd (Nm.Pl.lt_total _ _ h3 h4) h2
  · have h' : ¬ sc j = sc i := fun e => h e.symm
    simp only [if_neg h, if_neg h', decide_eq_true_eq]
    by_cases h2 : sc i < sc j
    · simp [h2]
    · have h3 : sc j < sc i := by omega
      simp [h2, h3]
theorem bef_irrefl (sc : Nat → Int) (nm : Nat → List UInt8) (i : Nat) : bef sc nm i i = false := by simp [bef]
theorem bef_trans {sc : Nat → Int} {nm : Nat → List UInt8} {i j k : Nat} (h1 : bef sc nm i j = true) (h2 : bef sc nm j k = true) : bef sc nm i k = true := by
  unfold bef at *
  by_cases e1 : sc i = sc j
  · rw [if_pos e1] at h1
    by_cases e2 : sc j = sc k
    · rw [if_pos e2] at h2
      rw [if_pos (e1.trans e2)]
      by_cases f1 : Nm.Pl.nums (nm i) = Nm.Pl.nums (nm j)
      · rw [if_pos f1, decide_eq_true_iff] at h1
        rw [f1]
        by_cases f2 : Nm.Pl.nums (nm j) = Nm.Pl.nums (nm k)
        · rw [if_pos f2, decide_eq_true_iff] at h2
          rw [if_pos f2, decide_eq_true_iff]; omega
        · rw [if_neg f2] at h2 ⊢; exact h2
      · rw [if_neg f1] at h1
        by_cases f2 : Nm.Pl.nums (nm j) = Nm.Pl.nums (nm k)
        · rw [f2] at f1 h1
          rw [if_neg f1]; exact h1
        · rw [if_neg f2] at h2
          have h3 := Nm.Pl.lt_trans _ _ _ h1 h2
          rw [if_neg]
          · exact h3
          · intro e
            rw [e, Nm.Pl.lt_self] at h3
            cases h3
    · rw [if_neg e2, decide_eq_true_iff] at h2
      rw [if_neg (by omega), decide_eq_true_iff]; omega
  · rw [if_neg e1, decide_eq_true_iff] at h1
    by_cases e2 : sc j = sc k
    · rw [if_neg (by omega), decide_eq_true_iff]; omega
    · rw [if_neg e2, decide_eq_true_iff] at h2
      rw [if_neg (by omega), decide_eq_true_iff]; omega
theorem bef_total {sc : Nat → Int} {nm : Nat → List UInt8} {i j : Nat} (h1 : bef sc nm i j = false) (h2 : bef sc nm j i = false) : i = j := by
  unfold bef at *
  by_cases e1 : sc i = sc j
  · rw [if_pos e1] at h1
    rw [if_pos e1.symm] at h2
    by_cases f1 : Nm.Pl.nums (nm i) = Nm.Pl.nums (nm j)
    · rw [if_pos f1, decide_eq_false_iff_not] at h1
      rw [if_pos f1.symm, decide_eq_false_iff_not] at h2
      omega
    · rw [if_neg f1] at h1
      rw [if_neg (fun e => f1 e.symm)] at h2
      exact absurd (Nm.Pl.lt_total _ _ h1 h2) f1
  · rw [if_neg e1, decide_eq_false_iff_not] at h1
    rw [if_neg (fun e => e1 e.symm), decide_eq_false_iff_not] at h2
    omega
theorem bef_asymm {sc : Nat → Int} {nm : Nat → List UInt8} {i j : Nat} (h1 : bef sc nm i j = true) : bef sc nm j i = false := by
  rw [← Bool.not_eq_true]
  intro h2
  have := bef_trans h1 h2
  rw [bef_irrefl] at this
  cases this

/-- what the sort's function answers, of indexes below N -/
def cfF (sc : Nat → Int) (nm : Nat → List UInt8) (N : Nat) (x y : Fin N) : Int := cmpI (aheadB (sc x) (sc y) (nm x) (nm y)) (aheadB (sc y) (sc x) (nm y) (nm x)) (x.val : Nat) (y.val : Nat)
theorem ltF (sc : Nat → Int) (nm : Nat → List UInt8) (N : Nat) (x y : Fin N) : Go.Proofs.ltOf (cfF sc nm N) x y = bef sc nm x y := by
  unfold Go.Proofs.ltOf cfF
  exact cmp_bef sc nm x y
theorem swoF (sc : Nat → Int) (nm : Nat → List UInt8) (N : Nat) : Go.Sort.SWO (Go.Proofs.ltOf (cfF sc nm N)) where
  irrefl x := by rw [ltF, bef_irrefl]
  trans x y z h1 h2 := by rw [ltF] at *; exact bef_trans h1 h2
  ntrans x y z h1 h2 := by
    rw [ltF] at *
    by_cases e : (x : Nat) = y
    · rw [e]; exact h2
    · by_cases e2 : (y : Nat) = z
      · rw [← e2]; exact h1
      · have a1 : bef sc nm y x = true := by
          cases h : bef sc nm y x with
          | true => rfl
          | false => exact absurd (bef_total h1 h) e
        have a2 : bef sc nm z y = true := by
          cases h : bef sc nm z y with
          | true => rfl
          | false => exact absurd (bef_total h2 h) e2
        exact bef_asymm (bef_trans a2 a1)
end Go.Proofs.Ytjpnkecfoealoaa
