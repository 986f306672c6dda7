/- Plain facts on products of registers: bytes 0 gone on with by squaring. No program. -/
import Derived.Test.YtmdkjdmiikbhcaaPl
namespace Go.Proofs.Ytmdkjdmiikbhcaa.Pl
set_option linter.unusedVariables false

theorem zeros0_out : ∀ (n s : Nat), zeros0 (n + 1) s = step0 (zeros0 n s) := by
  intro n
  induction n with
  | zero => intro s; rfl
  | succ n ih => intro s; rw [zeros0, ih]; rfl
theorem zeros0_add : ∀ (m n s : Nat), zeros0 (m + n) s = zeros0 n (zeros0 m s) := by
  intro m n
  induction n with
  | zero => intro s; rfl
  | succ n ih => intro s; rw [← Nat.add_assoc, zeros0_out, ih, zeros0_out]

/-- the product after i rounds -/
def mulTo : Nat → Nat → Nat → Nat
  | 0, _, _ => 0
  | i + 1, a, b => mulTo i a b ^^^ (if a.testBit (31 - i) then zeros0 i b else 0)
theorem mulTo_lt : ∀ (i a b : Nat), b < 4294967296 → mulTo i a b < 4294967296 := by
  intro i
  induction i with
  | zero => intro a b _; simp [mulTo]
  | succ i ih =>
    intro a b hb
    rw [mulTo]
    refine xor_lt 32 (ih a b hb) ?_
    split
    · exact zeros0_lt i b hb
    · omega
theorem step0_nought : step0 0 = 0 := by simp [step0]
theorem mulTo_step : ∀ (i a b : Nat), mulTo i a (step0 b) = step0 (mulTo i a b) := by
  intro i
  induction i with
  | zero => intro a b; simp [mulTo, step0_nought]
  | succ i ih =>
    intro a b
    rw [mulTo, mulTo, ih, step0_xor]
    congr 1
    split
    · rw [← zeros0_out, zeros0]
    · rw [step0_nought]
theorem mulTo_zeros : ∀ (n i a b : Nat), mulTo i a (zeros0 n b) = zeros0 n (mulTo i a b) := by
  intro n
  induction n with
  | zero => intro i a b; rfl
  | succ n ih => intro i a b; rw [zeros0, zeros0, ih, mulTo_step]
theorem zeros0_pow : ∀ (i k : Nat), i ≤ k → zeros0 i (2 ^ k) = 2 ^ (k - i) := by
  intro i
  induction i with
  | zero => intro k _; rfl
  | succ i ih =>
    intro k h
    rw [zeros0, show k = (k - 1) + 1 from by omega, Nat.pow_succ, Nat.mul_comm, step0_even, ih (k - 1) (by omega)]
    congr 1
    omega
theorem mulTo_one_bit : ∀ (i a j : Nat), i ≤ 32 → (mulTo i a (2 ^ 31)).testBit j = (decide (32 - i ≤ j ∧ j < 32) && a.testBit j) := by
  intro i
  induction i with
  | zero => intro a j _; simp only [mulTo, Nat.zero_testBit]; rw [decide_eq_false (by omega)]; rfl
  | succ i ih =>
    intro a j h
    rw [mulTo, Nat.testBit_xor, ih a j (by omega), zeros0_pow i 31 (by omega)]
    by_cases e : j = 31 - i
    · subst e
      rw [decide_eq_false (by omega), decide_eq_true (by omega)]
      cases ha : a.testBit (31 - i)
      · simp
      · simp [Nat.testBit_two_pow_self]
    · have h2 : (if a.testBit (31 - i) = true then 2 ^ (31 - i) else 0).testBit j = false := by
        split
        · rw [Nat.testBit_two_pow]; simp; omega
        · simp
      rw [h2, Bool.xor_false]
      congr 1
      rw [Bool.eq_iff_iff]
      simp only [decide_eq_true_eq]
      omega
theorem mulTo_one (a : Nat) (h : a < 4294967296) : mulTo 32 a (2 ^ 31) = a := by
  apply Nat.eq_of_testBit_eq
  intro j
  rw [mulTo_one_bit 32 a j (Nat.le_refl _)]
  by_cases hj : j < 32
  · rw [decide_eq_true ⟨by omega, hj⟩, Bool.true_and]
  · have : a.testBit j = false := Nat.testBit_lt_two_pow (Nat.lt_of_lt_of_le (show a < 2 ^ 32 from h) (Nat.pow_le_pow_right (by omega) (by omega)))
    rw [this, Bool.and_false]
/-- the factor that n bytes 0 are -/
def fac (n : Nat) : Nat := zeros0 (8 * n) (2 ^ 31)
theorem fac_lt (n : Nat) : fac n < 4294967296 := zeros0_lt _ _ (by decide)
theorem mul_fac (a n : Nat) (h : a < 4294967296) : mulTo 32 a (fac n) = zeros0 (8 * n) a := by
  unfold fac
  rw [mulTo_zeros, mulTo_one a h]
theorem fac_mul (p q : Nat) : mulTo 32 (fac p) (fac q) = fac (p + q) := by
  rw [mul_fac _ _ (fac_lt p)]
  unfold fac
  rw [← zeros0_add, Nat.mul_add]
theorem fac_none : fac 0 = 2147483648 := by decide
theorem fac_one : fac 1 = 8388608 := by decide
/-- the bit of round i -/
def bitAt (i : Nat) : Nat := 2147483648 / 2 ^ i
theorem bitAt_succ (i : Nat) : bitAt i / 2 = bitAt (i + 1) := by unfold bitAt; rw [Nat.div_div_eq_div_mul, Nat.pow_succ]
theorem bitAt_pow (i : Nat) (h : i < 32) : bitAt i = 2 ^ (31 - i) := by
  unfold bitAt
  rw [show (2147483648 : Nat) = 2 ^ 31 from rfl]
  exact Nat.pow_div (by omega) (by omega)
theorem bitAt_end : bitAt 32 = 0 := by decide
theorem bitAt_lt (i : Nat) : bitAt i < 4294967296 := by
  have : bitAt i ≤ 2147483648 := Nat.div_le_self _ _
  omega
theorem and_bit (a i : Nat) (h : i < 32) : a &&& bitAt i = if a.testBit (31 - i) then bitAt i else 0 := by
  rw [bitAt_pow i h]
  apply Nat.eq_of_testBit_eq
  intro j
  rw [Nat.testBit_and, Nat.testBit_two_pow]
  by_cases e : 31 - i = j
  · subst e
    cases ha : a.testBit (31 - i)
    · simp
    · simp [Nat.testBit_two_pow_self]
  · rw [decide_eq_false e, Bool.and_false]
    split
    · rw [Nat.testBit_two_pow, decide_eq_false e]
    · simp
theorem bitAt_pos (i : Nat) (h : i < 32) : 0 < bitAt i := by rw [bitAt_pow i h]; exact Nat.two_pow_pos _

theorem allBits_zeros (n : Nat) : allBits (List.replicate n 0) = List.replicate (8 * n) 0 := by
  induction n with
  | zero => rfl
  | succ n ih =>
    rw [List.replicate_succ, allBits_cons, ih, show bitsOf 8 (0 : UInt8).toNat = List.replicate 8 0 from rfl, List.replicate_append_replicate]
    congr 1
    omega
theorem run_zeros : ∀ (n s : Nat), run s (List.replicate n 0) = zeros0 n s := by
  intro n
  induction n with
  | zero => intro s; rfl
  | succ n ih => intro s; rw [List.replicate_succ, run_cons, ih, zeros0]; simp [step]
theorem more0_zeros (n s : Nat) : more0 s (List.replicate n 0) = zeros0 (8 * n) s := by rw [more0_run, allBits_zeros, run_zeros]
theorem more_zeros (n s : Nat) (hs : s < 4294967296) : more s (List.replicate n 0) = 4294967295 - zeros0 (8 * n) (4294967295 - s) := by unfold more; rw [more0_zeros]
theorem more_nil (s : Nat) (hs : s < 4294967296) : more s [] = s := by unfold more more0; simp; omega
end Go.Proofs.Ytmdkjdmiikbhcaa.Pl
