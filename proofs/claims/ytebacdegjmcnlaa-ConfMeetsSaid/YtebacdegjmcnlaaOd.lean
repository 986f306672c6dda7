/-
  Orders: which are valid. Condition: the texts have at most 2^48 bytes.
-/
import Derived.Test.YtebacdegjmcnlaaMv
namespace Go.Proofs.Ytebacdegjmcnlaa
set_option maxRecDepth 20000
open Go.RowKit Pl
set_option linter.unusedVariables false
structure Or where
  k : Int
  i : Int
  q : Int
  n : Int
  o : Int
  s : ByteArray
  t : ByteArray
  a : Int
  b : Int
  c : Int
  m : Int
def oV (k i q n o : Int) (s t : ByteArray) (a b c m : Int) : Value := .agg #[.int .i64 k, .int .i64 i, .int .i64 q, .int .i64 n, .int .i64 o, .string s, .string t, .int .i64 a, .int .i64 b, .int .i64 c, .int .i64 m]
def Or.v (x : Or) : Value := oV x.k x.i x.q x.n x.o x.s x.t x.a x.b x.c x.m
theorem eqC_any (d : Nat) (o : Int) (s t : ByteArray) (a b c n : Int) (o' : Int) (s' t' : ByteArray) (a' b' c' n' : Int) (w : World) : (Op.equalIn (d + 4) 41 (cV o s t a b c n) (cV o' s' t' a' b' c' n')).run Try.prog w = .ok (eqC o s t a b c n o' s' t' a' b' c' n') w := by
  have u2 := Try.underlying2
  have a2 := Try.isAgg2
  have z2 := Try.sizeOf2
  have u3 := Try.underlying3
  have a3 := Try.isAgg3
  have z3 := Try.sizeOf3
  have u9 := Try.underlying9
  have a9 := Try.isAgg9
  have z9 := Try.sizeOf9
  have a23 := Try.isAgg39
  have z23 := Try.sizeOf39
  have e23 := eq23 (d + 1) a b c a' b' c' w
  have hu : Try.prog.underlying 41 = some (.struct (Try.prog.fieldsOf 41)) := by kernel_rfl
  rw [show d + 4 = (d + 3) + 1 from rfl, cV, cV, run_equalIn_struct w (d + 3) 41 _ _ hu (by kernel_rfl)]
  simp only [Program.fieldsOf, Try.underlying41]
  unfold eqC
  generalize eqV a b c a' b' c' = E at *
  go_simp
  have hb := beq_str s s'
  have hc := beq_str t t'
  rw [← hb, ← hc]
  clear hb hc e23 hu
  generalize s.toList = S at *
  generalize t.toList = T at *
  by_cases h1 : o = o' <;> by_cases h2 : S = s'.toList <;> by_cases h3 : T = t'.toList <;> cases E <;> by_cases h4 : n = n' <;> simp [h1, h2, h3, h4]
theorem eqO_any (k i q n o : Int) (s t : ByteArray) (a b c m : Int) (k' i' q' n' o' : Int) (s' t' : ByteArray) (a' b' c' m' : Int) (w : World) :
    (Op.equalIn 10000 43 (oV k i q n o s t a b c m) (oV k' i' q' n' o' s' t' a' b' c' m')).run Try.prog w = .ok (k == k' && (i == i' && (q == q' && (n == n' && eqC o s t a b c m o' s' t' a' b' c' m')))) w := by
  have u2 := Try.underlying2
  have a2 := Try.isAgg2
  have z2 := Try.sizeOf2
  have u3 := Try.underlying3
  have a3 := Try.isAgg3
  have z3 := Try.sizeOf3
  have a41 := Try.isAgg41
  have z41 := Try.sizeOf41
  have u9 := Try.underlying9
  have a9 := Try.isAgg9
  have z9 := Try.sizeOf9
  have a39 := Try.isAgg39
  have z39 := Try.sizeOf39
  have e39 : (Op.equalIn 9998 39 (.agg #[.int .i64 a, .int .i64 b, .int .i64 c]) (.agg #[.int .i64 a', .int .i64 b', .int .i64 c'])).run Try.prog w = .ok (eqV a b c a' b' c') w := eq23 9996 a b c a' b' c' w
  have hu : Try.prog.underlying 43 = some (.struct (Try.prog.fieldsOf 43)) := by kernel_rfl
  rw [show (10000 : Nat) = 9999 + 1 from rfl, oV, oV, run_equalIn_struct w 9999 43 _ _ hu (by kernel_rfl)]
  simp only [Program.fieldsOf, Try.underlying43]
  unfold eqC
  generalize eqV a b c a' b' c' = E at *
  go_simp
  have hb := beq_str s s'
  have hc := beq_str t t'
  rw [← hb, ← hc]
  clear hb hc e39 hu
  generalize s.toList = S at *
  generalize t.toList = T at *
  rcases Classical.em (k = k') with h1 | h1
  rotate_left
  · simp [h1]
  rcases Classical.em (i = i') with h2 | h2
  rotate_left
  · simp [h1, h2]
  rcases Classical.em (q = q') with h3 | h3
  rotate_left
  · simp [h1, h2, h3]
  rcases Classical.em (n = n') with h4 | h4
  rotate_left
  · simp [h1, h2, h3, h4]
  rcases Classical.em (o = o') with h5 | h5
  rotate_left
  · simp [h1, h2, h3, h4, h5]
  rcases Classical.em (S = s'.toList) with h6 | h6
  rotate_left
  · simp [h1, h2, h3, h4, h5, h6]
  rcases Classical.em (T = t'.toList) with h7 | h7
  rotate_left
  · simp [h1, h2, h3, h4, h5, h6, h7]
  cases E <;> by_cases h8 : m = m' <;> simp [h1, h2, h3, h4, h5, h6, h7, h8]
theorem from_any (l n m : Int) (w : World) : Calls Try.prog 33 #[.int .i64 l, .int .i64 n, .int .i64 m] w (RetBelow (.bool (decide (l ≤ n) && decide (n ≤ m))) w) := by
  cases h1 : decide (l ≤ n) with
  | false =>
    rw [Bool.false_and]
    go_enter Try.func33, Try.ntmps33
    go_wp2_with fail
    refine bodyPost_ret (results_tmp (fn := Try.f33) (t := 6) rfl _ _ _) rfl ?_
    exact ⟨rfl, Below.refl _ _⟩
  | true =>
    rw [Bool.true_and]
    go_enter Try.func33, Try.ntmps33
    go_wp2_with fail
    refine bodyPost_ret (results_tmp (fn := Try.f33) (t := 6) rfl _ _ _) rfl ?_
    exact ⟨rfl, Below.refl _ _⟩
end Go.Proofs.Ytebacdegjmcnlaa
