/-
  Orders: which are valid. Condition: the texts have at most 2^48 bytes.
-/
import Derived.Test.YtebacdegjmcnlaaGreatXr
import Derived.Test.YtebacdegjmcnlaaGreatPt
namespace Go.Proofs.YtebacdegjmcnlaaGreat
set_option maxRecDepth 20000
open Go.RowKit Pl
set_option linter.unusedVariables false
structure Or where
  k : Int
  i : Int
  q : Int
  n : Int
  o : Int
  s : ByteArray
  t : ByteArray
  a : Int
  b : Int
  c : Int
  m : Int
def oV (k i q n o : Int) (s t : ByteArray) (a b c m : Int) : Value := .agg #[.int .i64 k, .int .i64 i, .int .i64 q, .int .i64 n, .int .i64 o, .string s, .string t, .int .i64 a, .int .i64 b, .int .i64 c, .int .i64 m]
def Or.v (x : Or) : Value := oV x.k x.i x.q x.n x.o x.s x.t x.a x.b x.c x.m
theorem eqC_any (d : Nat) (o : Int) (s t : ByteArray) (a b c n : Int) (o' : Int) (s' t' : ByteArray) (a' b' c' n' : Int) (w : World) : (Op.equalIn (d + 4) 32 (cV o s t a b c n) (cV o' s' t' a' b' c' n')).run Tryz.prog w = .ok (eqC o s t a b c n o' s' t' a' b' c' n') w := by
  have u2 := Tryz.underlying2
  have a2 := Tryz.isAgg2
  have z2 := Tryz.sizeOf2
  have u3 := Tryz.underlying3
  have a3 := Tryz.isAgg3
  have z3 := Tryz.sizeOf3
  have u9 := Tryz.underlying9
  have a9 := Tryz.isAgg9
  have z9 := Tryz.sizeOf9
  have a23 := Tryz.isAgg30
  have z23 := Tryz.sizeOf30
  have e23 := eq23 (d + 1) a b c a' b' c' w
  have hu : Tryz.prog.underlying 32 = some (.struct (Tryz.prog.fieldsOf 32)) := by kernel_rfl
  rw [show d + 4 = (d + 3) + 1 from rfl, cV, cV, run_equalIn_struct w (d + 3) 32 _ _ hu (by kernel_rfl)]
  simp only [Program.fieldsOf, Tryz.underlying32]
  unfold eqC
  generalize eqV a b c a' b' c' = E at *
  go_simp
  have hb := beq_str s s'
  have hc := beq_str t t'
  rw [← hb, ← hc]
  clear hb hc e23 hu
  generalize s.toList = S at *
  generalize t.toList = T at *
  by_cases h1 : o = o' <;> by_cases h2 : S = s'.toList <;> by_cases h3 : T = t'.toList <;> cases E <;> by_cases h4 : n = n' <;> simp [h1, h2, h3, h4]
theorem eqO_any (k i q n o : Int) (s t : ByteArray) (a b c m : Int) (k' i' q' n' o' : Int) (s' t' : ByteArray) (a' b' c' m' : Int) (w : World) :
    (Op.equalIn 10000 34 (oV k i q n o s t a b c m) (oV k' i' q' n' o' s' t' a' b' c' m')).run Tryz.prog w = .ok (k == k' && (i == i' && (q == q' && (n == n' && eqC o s t a b c m o' s' t' a' b' c' m')))) w := by
  have u2 := Tryz.underlying2
  have a2 := Tryz.isAgg2
  have z2 := Tryz.sizeOf2
  have u3 := Tryz.underlying3
  have a3 := Tryz.isAgg3
  have z3 := Tryz.sizeOf3
  have a41 := Tryz.isAgg32
  have z41 := Tryz.sizeOf32
  have u9 := Tryz.underlying9
  have a9 := Tryz.isAgg9
  have z9 := Tryz.sizeOf9
  have a39 := Tryz.isAgg30
  have z39 := Tryz.sizeOf30
  have e39 : (Op.equalIn 9998 30 (.agg #[.int .i64 a, .int .i64 b, .int .i64 c]) (.agg #[.int .i64 a', .int .i64 b', .int .i64 c'])).run Tryz.prog w = .ok (eqV a b c a' b' c') w := eq23 9996 a b c a' b' c' w
  have hu : Tryz.prog.underlying 34 = some (.struct (Tryz.prog.fieldsOf 34)) := by kernel_rfl
  rw [show (10000 : Nat) = 9999 + 1 from rfl, oV, oV, run_equalIn_struct w 9999 34 _ _ hu (by kernel_rfl)]
  simp only [Program.fieldsOf, Tryz.underlying34]
  unfold eqC
  generalize eqV a b c a' b' c' = E at *
  go_simp
  have hb := beq_str s s'
  have hc := beq_str t t'
  rw [← hb, ← hc]
  clear hb hc e39 hu
  generalize s.toList = S at *
  generalize t.toList = T at *
  rcases Classical.em (k = k') with h1 | h1
  rotate_left
  · simp [h1]
  rcases Classical.em (i = i') with h2 | h2
  rotate_left
  · simp [h1, h2]
  rcases Classical.em (q = q') with h3 | h3
  rotate_left
  · simp [h1, h2, h3]
  rcases Classical.em (n = n') with h4 | h4
  rotate_left
  · simp [h1, h2, h3, h4]
  rcases Classical.em (o = o') with h5 | h5
  rotate_left
  · simp [h1, h2, h3, h4, h5]
  rcases Classical.em (S = s'.toList) with h6 | h6
  rotate_left
  · simp [h1, h2, h3, h4, h5, h6]
  rcases Classical.em (T = t'.toList) with h7 | h7
  rotate_left
  · simp [h1, h2, h3, h4, h5, h6, h7]
  cases E <;> by_cases h8 : m = m' <;> simp [h1, h2, h3, h4, h5, h6, h7, h8]
theorem from_any (l n m : Int) (w : World) : Calls Tryz.prog 27 #[.int .i64 l, .int .i64 n, .int .i64 m] w (RetBelow (.bool (decide (l ≤ n) && decide (n ≤ m))) w) := by
  cases h1 : decide (l ≤ n) with
  | false =>
    rw [Bool.false_and]
    go_enter Tryz.func27, Tryz.ntmps27
    go_wp2_with fail
    refine bodyPost_ret (results_tmp (fn := Tryz.f27) (t := 6) rfl _ _ _) rfl ?_
    exact ⟨rfl, Below.refl _ _⟩
  | true =>
    rw [Bool.true_and]
    go_enter Tryz.func27, Tryz.ntmps27
    go_wp2_with fail
    refine bodyPost_ret (results_tmp (fn := Tryz.f27) (t := 6) rfl _ _ _) rfl ?_
    exact ⟨rfl, Below.refl _ _⟩
end Go.Proofs.YtebacdegjmcnlaaGreat
/-
  Which orders are valid, as the program tells it. Condition: the texts have at most 2^48 bytes.
-/
namespace Go.Proofs.YtebacdegjmcnlaaGreat
set_option maxRecDepth 20000
open Go.RowKit Pl
set_option linter.unusedVariables false
def zC (o : Int) (s t : ByteArray) (a b c m : Int) : Bool := eqC o s t a b c m 0 ⟨#[]⟩ ⟨#[]⟩ 0 0 0 0
def mayO (k i q n o : Int) (s t : ByteArray) (a b c m : Int) : Bool :=
  if k = 0 then i == 0 && (q == 0 && (n == 0 && zC o s t a b c m))
  else if k = 1 ∨ k = 3 then (i == 0 && (q == 0 && zC o s t a b c m)) && (decide (0 ≤ n) && decide (n ≤ 4611686018427387904))
  else if k = 2 then n == 0 && ((decide (1 ≤ i) && decide (i ≤ 4611686018427387904)) && ((decide (1 ≤ q) && decide (q ≤ 4611686018427387904)) && mayC o s t a b c m))
  else if k = 4 then (i == 0 && (q == 0 && zC o s t a b c m)) && (decide (1 ≤ n) && decide (n ≤ 127))
  else if k = 5 then (i == 0 && (q == 0 && n == 0)) && (o == 7 && mayC o s t a b c m)
  else false
theorem eqC_self (o : Int) (s t : ByteArray) (a b c m : Int) : eqC o s t a b c m o s t a b c m = true := eqC_iff.2 ⟨rfl, rfl, rfl, ⟨rfl, rfl, rfl⟩, rfl⟩
/-- equality of two orders, for the walk -/
theorem qO (k i q n o : Int) (s t : ByteArray) (a b c m : Int) (k' i' q' n' o' : Int) (s' t' : ByteArray) (a' b' c' m' : Int) (E : Bool) (h : (k == k' && (i == i' && (q == q' && (n == n' && eqC o s t a b c m o' s' t' a' b' c' m')))) = E) (V : World) :
    (binOp .eql 34 (.agg #[.int .i64 k, .int .i64 i, .int .i64 q, .int .i64 n, .int .i64 o, .string s, .string t, .int .i64 a, .int .i64 b, .int .i64 c, .int .i64 m]) (.agg #[.int .i64 k', .int .i64 i', .int .i64 q', .int .i64 n', .int .i64 o', .string s', .string t', .int .i64 a', .int .i64 b', .int .i64 c', .int .i64 m'])).run Tryz.prog V = .ok (.bool E) V := by
  have := eqO_any k i q n o s t a b c m k' i' q' n' o' s' t' a' b' c' m' V
  rw [h] at this
  unfold oV at this
  rw [run_eql_struct, this]
  rfl
set_option maxHeartbeats 2000000 in
theorem may0 (i q n o : Int) (s t : ByteArray) (a b c m : Int) (w : World) : Calls Tryz.prog 15 #[oV 0 i q n o s t a b c m] w (RetBelow (.bool (mayO 0 i q n o s t a b c m)) w) := by
  obtain ⟨E, hEd⟩ : ∃ E, (i == 0 && (q == 0 && (n == 0 && zC o s t a b c m))) = E := ⟨_, rfl⟩
  have hE := qO 0 i q n o s t a b c m 0 0 0 0 0 ⟨#[]⟩ ⟨#[]⟩ 0 0 0 0 E (by rw [← hEd]; simp [zC])
  have hb : ∀ V : World, (Instr.build 34 #[(0, .int .i64 0)]).run Tryz.prog V = .ok (.agg #[.int .i64 0, .int .i64 0, .int .i64 0, .int .i64 0, .int .i64 0, .string ⟨#[]⟩, .string ⟨#[]⟩, .int .i64 0, .int .i64 0, .int .i64 0, .int .i64 0]) V := fun V => run_build V 34 _ _ (by kernel_rfl)
  rw [show mayO 0 i q n o s t a b c m = E from hEd]
  clear hEd
  unfold oV
  go_enter Tryz.func15, Tryz.ntmps15
  go_wp2_with fail
  refine bodyPost_ret (results_tmp (fn := Tryz.f15) (t := 2) rfl _ _ _) rfl ?_
  exact ⟨rfl, below_2 _ _ _⟩
set_option maxHeartbeats 2000000 in
theorem may1 (i q n o : Int) (s t : ByteArray) (a b c m : Int) (w : World) : Calls Tryz.prog 15 #[oV 1 i q n o s t a b c m] w (RetBelow (.bool (mayO 1 i q n o s t a b c m)) w) := by
  obtain ⟨E, hEd⟩ : ∃ E, (i == 0 && (q == 0 && zC o s t a b c m)) = E := ⟨_, rfl⟩
  have hE := qO 1 i q n o s t a b c m 1 0 0 n 0 ⟨#[]⟩ ⟨#[]⟩ 0 0 0 0 E (by rw [← hEd]; simp [zC])
  have hb : ∀ V : World, (Instr.build 34 #[(0, .int .i64 1)]).run Tryz.prog V = .ok (.agg #[.int .i64 1, .int .i64 0, .int .i64 0, .int .i64 0, .int .i64 0, .string ⟨#[]⟩, .string ⟨#[]⟩, .int .i64 0, .int .i64 0, .int .i64 0, .int .i64 0]) V := fun V => run_build V 34 _ _ (by kernel_rfl)
  rw [show mayO 1 i q n o s t a b c m = (E && (decide (0 ≤ n) && decide (n ≤ 4611686018427387904))) by rw [← hEd]; rfl]
  clear hEd
  have HF := Lib.hid fun X => from_any 0 n 4611686018427387904 X
  generalize (decide (0 ≤ n) && decide (n ≤ 4611686018427387904)) = F at *
  unfold oV
  cases E with
  | false =>
    rw [Bool.false_and]
    go_enter Tryz.func15, Tryz.ntmps15
    go_wp2_with fail
    refine bodyPost_ret (results_tmp (fn := Tryz.f15) (t := 2) rfl _ _ _) rfl ?_
    exact ⟨rfl, below_2 _ _ _⟩
  | true =>
    rw [Bool.true_and]
    go_enter Tryz.func15, Tryz.ntmps15
    go_wp2_with (go_at_call 27; (with_reducible refine (HF.out _).mono ?_); rintro e w1 ⟨rfl, hb1⟩)
    refine bodyPost_ret (results_tmp (fn := Tryz.f15) (t := 2) rfl _ _ _) rfl ?_
    exact ⟨rfl, (below_2 _ _ _).trans (hb1.mono (by simp; omega))⟩
set_option maxHeartbeats 2000000 in
theorem may3 (i q n o : Int) (s t : ByteArray) (a b c m : Int) (w : World) : Calls Tryz.prog 15 #[oV 3 i q n o s t a b c m] w (RetBelow (.bool (mayO 3 i q n o s t a b c m)) w) := by
  obtain ⟨E, hEd⟩ : ∃ E, (i == 0 && (q == 0 && zC o s t a b c m)) = E := ⟨_, rfl⟩
  have hE := qO 3 i q n o s t a b c m 3 0 0 n 0 ⟨#[]⟩ ⟨#[]⟩ 0 0 0 0 E (by rw [← hEd]; simp [zC])
  have hb : ∀ V : World, (Instr.build 34 #[(0, .int .i64 3)]).run Tryz.prog V = .ok (.agg #[.int .i64 3, .int .i64 0, .int .i64 0, .int .i64 0, .int .i64 0, .string ⟨#[]⟩, .string ⟨#[]⟩, .int .i64 0, .int .i64 0, .int .i64 0, .int .i64 0]) V := fun V => run_build V 34 _ _ (by kernel_rfl)
  rw [show mayO 3 i q n o s t a b c m = (E && (decide (0 ≤ n) && decide (n ≤ 4611686018427387904))) by rw [← hEd]; rfl]
  clear hEd
  have HF := Lib.hid fun X => from_any 0 n 4611686018427387904 X
  generalize (decide (0 ≤ n) && decide (n ≤ 4611686018427387904)) = F at *
  unfold oV
  cases E with
  | false =>
    rw [Bool.false_and]
    go_enter Tryz.func15, Tryz.ntmps15
    go_wp2_with fail
    refine bodyPost_ret (results_tmp (fn := Tryz.f15) (t := 2) rfl _ _ _) rfl ?_
    exact ⟨rfl, below_2 _ _ _⟩
  | true =>
    rw [Bool.true_and]
    go_enter Tryz.func15, Tryz.ntmps15
    go_wp2_with (go_at_call 27; (with_reducible refine (HF.out _).mono ?_); rintro e w1 ⟨rfl, hb1⟩)
    refine bodyPost_ret (results_tmp (fn := Tryz.f15) (t := 2) rfl _ _ _) rfl ?_
    exact ⟨rfl, (below_2 _ _ _).trans (hb1.mono (by simp; omega))⟩
set_option maxHeartbeats 2000000 in
theorem may4 (i q n o : Int) (s t : ByteArray) (a b c m : Int) (w : World) : Calls Tryz.prog 15 #[oV 4 i q n o s t a b c m] w (RetBelow (.bool (mayO 4 i q n o s t a b c m)) w) := by
  obtain ⟨E, hEd⟩ : ∃ E, (i == 0 && (q == 0 && zC o s t a b c m)) = E := ⟨_, rfl⟩
  have hE := qO 4 i q n o s t a b c m 4 0 0 n 0 ⟨#[]⟩ ⟨#[]⟩ 0 0 0 0 E (by rw [← hEd]; simp [zC])
  have hb : ∀ V : World, (Instr.build 34 #[(0, .int .i64 4)]).run Tryz.prog V = .ok (.agg #[.int .i64 4, .int .i64 0, .int .i64 0, .int .i64 0, .int .i64 0, .string ⟨#[]⟩, .string ⟨#[]⟩, .int .i64 0, .int .i64 0, .int .i64 0, .int .i64 0]) V := fun V => run_build V 34 _ _ (by kernel_rfl)
  rw [show mayO 4 i q n o s t a b c m = (E && (decide (1 ≤ n) && decide (n ≤ 127))) by rw [← hEd]; rfl]
  clear hEd
  have HF := Lib.hid fun X => from_any 1 n 127 X
  generalize (decide (1 ≤ n) && decide (n ≤ 127)) = F at *
  unfold oV
  cases E with
  | false =>
    rw [Bool.false_and]
    go_enter Tryz.func15, Tryz.ntmps15
    go_wp2_with fail
    refine bodyPost_ret (results_tmp (fn := Tryz.f15) (t := 2) rfl _ _ _) rfl ?_
    exact ⟨rfl, below_2 _ _ _⟩
  | true =>
    rw [Bool.true_and]
    go_enter Tryz.func15, Tryz.ntmps15
    go_wp2_with (go_at_call 27; (with_reducible refine (HF.out _).mono ?_); rintro e w1 ⟨rfl, hb1⟩)
    refine bodyPost_ret (results_tmp (fn := Tryz.f15) (t := 2) rfl _ _ _) rfl ?_
    exact ⟨rfl, (below_2 _ _ _).trans (hb1.mono (by simp; omega))⟩
set_option maxHeartbeats 2000000 in
theorem may5 (i q n o : Int) (s t : ByteArray) (a b c m : Int) (w : World) (hs : s.size ≤ 281474976710656) (ht : t.size ≤ 281474976710656) : Calls Tryz.prog 15 #[oV 5 i q n o s t a b c m] w (RetBelow (.bool (mayO 5 i q n o s t a b c m)) w) := by
  obtain ⟨E, hEd⟩ : ∃ E, (i == 0 && (q == 0 && n == 0)) = E := ⟨_, rfl⟩
  have hE := qO 5 i q n o s t a b c m 5 0 0 0 o s t a b c m E (by rw [← hEd]; simp [eqC_self])
  have hb : ∀ V : World, (Instr.build 34 #[(0, .int .i64 5)]).run Tryz.prog V = .ok (.agg #[.int .i64 5, .int .i64 0, .int .i64 0, .int .i64 0, .int .i64 0, .string ⟨#[]⟩, .string ⟨#[]⟩, .int .i64 0, .int .i64 0, .int .i64 0, .int .i64 0]) V := fun V => run_build V 34 _ _ (by kernel_rfl)
  have HM := Lib.hid fun X => may_any o s t a b c m X hs ht
  have HMy : Hid (mayO 5 i q n o s t a b c m = (E && (o == 7 && mayC o s t a b c m))) := Lib.hid (by rw [← hEd]; rfl)
  clear hEd hs ht
  rw [HMy.out]
  unfold oV
  unfold MayPost at HM
  generalize mayC o s t a b c m = F at *
  cases E with
  | false =>
    rw [Bool.false_and]
    go_enter Tryz.func15, Tryz.ntmps15
    go_wp2_with fail
    refine bodyPost_ret (results_tmp (fn := Tryz.f15) (t := 2) rfl _ _ _) rfl ?_
    exact ⟨rfl, below_2 _ _ _⟩
  | true =>
    rw [Bool.true_and]
    by_cases h7 : o = 7
    · subst h7
      rw [show ((7 : Int) == 7 && F) = F from by cases F <;> rfl]
      go_enter Tryz.func15, Tryz.ntmps15
      go_wp2_with (go_at_call 28; (with_reducible refine (HM.out _).mono ?_); rintro e w1 ⟨rfl, hb1⟩)
      refine bodyPost_ret (results_tmp (fn := Tryz.f15) (t := 2) rfl _ _ _) rfl ?_
      exact ⟨rfl, (below_2 _ _ _).trans (hb1.mono (by simp; omega))⟩
    · have g7 : decide (o = 7) = false := decide_eq_false h7
      rw [show (o == 7 && F) = false from by rw [show (o == 7) = false from by simpa using h7]; rfl]
      go_enter Tryz.func15, Tryz.ntmps15
      go_wp2_with fail
      refine bodyPost_ret (results_tmp (fn := Tryz.f15) (t := 2) rfl _ _ _) rfl ?_
      exact ⟨rfl, below_2 _ _ _⟩
set_option maxHeartbeats 2000000 in
theorem mayN (k i q n o : Int) (s t : ByteArray) (a b c m : Int) (w : World) (h0 : k ≠ 0) (h1 : k ≠ 1) (h2 : k ≠ 2) (h3 : k ≠ 3) (h4 : k ≠ 4) (h5 : k ≠ 5) : Calls Tryz.prog 15 #[oV k i q n o s t a b c m] w (RetBelow (.bool (mayO k i q n o s t a b c m)) w) := by
  have hb : ∀ V : World, (Instr.build 34 #[(0, .int .i64 k)]).run Tryz.prog V = .ok (.agg #[.int .i64 k, .int .i64 0, .int .i64 0, .int .i64 0, .int .i64 0, .string ⟨#[]⟩, .string ⟨#[]⟩, .int .i64 0, .int .i64 0, .int .i64 0, .int .i64 0]) V := fun V => run_build V 34 _ _ (by kernel_rfl)
  rw [show mayO k i q n o s t a b c m = false by unfold mayO; rw [if_neg h0, if_neg (fun h => h.elim h1 h3), if_neg h2, if_neg h4, if_neg h5]]
  have g0 := decide_eq_false h0
  have g1 := decide_eq_false h1
  have g2 := decide_eq_false h2
  have g3 := decide_eq_false h3
  have g4 := decide_eq_false h4
  have g5 := decide_eq_false h5
  unfold oV
  go_enter Tryz.func15, Tryz.ntmps15
  go_wp2_with fail
  refine bodyPost_ret (results_tmp (fn := Tryz.f15) (t := 2) rfl _ _ _) rfl ?_
  exact ⟨rfl, below_2 _ _ _⟩
end Go.Proofs.YtebacdegjmcnlaaGreat
namespace Go.Proofs.YtebacdegjmcnlaaGreat
set_option maxRecDepth 20000
open Go.RowKit Pl
set_option linter.unusedVariables false
/-- eleven cells of a block -/
theorem row11 {w : World} {b : Nat} {a0 a1 a2 a3 a4 a5 a6 a7 a8 a9 a10 : Value} {t : TypeId} (h : w.heap[b]? = some (.cells #[a0, a1, a2, a3, a4, a5, a6, a7, a8, a9, a10] t (0, 0))) :
    w.cell? ⟨b, 0, none⟩ = some a0 ∧ w.cell? ⟨b, 1, none⟩ = some a1 ∧ w.cell? ⟨b, 2, none⟩ = some a2 ∧ w.cell? ⟨b, 3, none⟩ = some a3 ∧ w.cell? ⟨b, 4, none⟩ = some a4 ∧ w.cell? ⟨b, 5, none⟩ = some a5 ∧ w.cell? ⟨b, 6, none⟩ = some a6 ∧ w.cell? ⟨b, 7, none⟩ = some a7 ∧ w.cell? ⟨b, 8, none⟩ = some a8 ∧ w.cell? ⟨b, 9, none⟩ = some a9 ∧ w.cell? ⟨b, 10, none⟩ = some a10 := by
  refine ⟨?_, ?_, ?_, ?_, ?_, ?_, ?_, ?_, ?_, ?_, ?_⟩
  all_goals (rw [Lib.cell_of_heap h]; rfl)
set_option maxHeartbeats 2000000 in
theorem may2 (i q n o : Int) (s t : ByteArray) (a b c m : Int) (w : World) (hs : s.size ≤ 281474976710656) (ht : t.size ≤ 281474976710656) : Calls Tryz.prog 15 #[oV 2 i q n o s t a b c m] w (RetBelow (.bool (mayO 2 i q n o s t a b c m)) w) := by
  obtain ⟨E, hEd⟩ : ∃ E, (n == 0) = E := ⟨_, rfl⟩
  have hE := qO 2 i q n o s t a b c m 2 i q 0 o s t a b c m E (by rw [← hEd]; simp [eqC_self])
  have hb : ∀ V : World, (Instr.build 34 #[(0, .int .i64 2)]).run Tryz.prog V = .ok (.agg #[.int .i64 2, .int .i64 0, .int .i64 0, .int .i64 0, .int .i64 0, .string ⟨#[]⟩, .string ⟨#[]⟩, .int .i64 0, .int .i64 0, .int .i64 0, .int .i64 0]) V := fun V => run_build V 34 _ _ (by kernel_rfl)
  have HM := Lib.hid fun X => may_any o s t a b c m X hs ht
  have HF1 := Lib.hid fun X => from_any 1 i 4611686018427387904 X
  have HF2 := Lib.hid fun X => from_any 1 q 4611686018427387904 X
  have HMy : Hid (mayO 2 i q n o s t a b c m = (E && ((decide (1 ≤ i) && decide (i ≤ 4611686018427387904)) && ((decide (1 ≤ q) && decide (q ≤ 4611686018427387904)) && mayC o s t a b c m)))) := Lib.hid (by rw [← hEd]; rfl)
  clear hEd hs ht
  rw [HMy.out]
  clear HMy
  unfold oV
  unfold MayPost at HM
  generalize mayC o s t a b c m = F at *
  generalize (decide (1 ≤ i) && decide (i ≤ 4611686018427387904)) = F1 at *
  generalize (decide (1 ≤ q) && decide (q ≤ 4611686018427387904)) = F2 at *
  go_enter Tryz.func15, Tryz.ntmps15
  go_wp2_with fail
  go_region
  have HB0 := Lib.hid ((below_2 w (.cells #[.int .i64 2, .int .i64 i, .int .i64 q, .int .i64 n, .int .i64 o, .string s, .string t, .int .i64 a, .int .i64 b, .int .i64 c, .int .i64 m] 34) (.cells #[.int .i64 2, .int .i64 i, .int .i64 q, .int .i64 0, .int .i64 o, .string s, .string t, .int .i64 a, .int .i64 b, .int .i64 c, .int .i64 m] 34)).drew)
  have HR0 : Hid (((w.alloc (.cells #[.int .i64 2, .int .i64 i, .int .i64 q, .int .i64 n, .int .i64 o, .string s, .string t, .int .i64 a, .int .i64 b, .int .i64 c, .int .i64 m] 34)).alloc (.cells #[.int .i64 2, .int .i64 i, .int .i64 q, .int .i64 0, .int .i64 o, .string s, .string t, .int .i64 a, .int .i64 b, .int .i64 c, .int .i64 m] 34)).drew.heap[w.heap.size]? = some (.cells #[.int .i64 2, .int .i64 i, .int .i64 q, .int .i64 n, .int .i64 o, .string s, .string t, .int .i64 a, .int .i64 b, .int .i64 c, .int .i64 m] 34 (0, 0))) := Lib.hid ((Below.heap_alloc _ _ _ (by simp)).trans (heap_alloc_new w _))
  have HR1 : Hid (((w.alloc (.cells #[.int .i64 2, .int .i64 i, .int .i64 q, .int .i64 n, .int .i64 o, .string s, .string t, .int .i64 a, .int .i64 b, .int .i64 c, .int .i64 m] 34)).alloc (.cells #[.int .i64 2, .int .i64 i, .int .i64 q, .int .i64 0, .int .i64 o, .string s, .string t, .int .i64 a, .int .i64 b, .int .i64 c, .int .i64 m] 34)).drew.heap[w.heap.size + 1]? = some (.cells #[.int .i64 2, .int .i64 i, .int .i64 q, .int .i64 0, .int .i64 o, .string s, .string t, .int .i64 a, .int .i64 b, .int .i64 c, .int .i64 m] 34 (0, 0))) := Lib.hid (by
    have := heap_alloc_new (w.alloc (.cells #[.int .i64 2, .int .i64 i, .int .i64 q, .int .i64 n, .int .i64 o, .string s, .string t, .int .i64 a, .int .i64 b, .int .i64 c, .int .i64 m] 34)) (.cells #[.int .i64 2, .int .i64 i, .int .i64 q, .int .i64 0, .int .i64 o, .string s, .string t, .int .i64 a, .int .i64 b, .int .i64 c, .int .i64 m] 34)
    rwa [show (w.alloc (.cells #[.int .i64 2, .int .i64 i, .int .i64 q, .int .i64 n, .int .i64 o, .string s, .string t, .int .i64 a, .int .i64 b, .int .i64 c, .int .i64 m] 34)).heap.size = w.heap.size + 1 by simp] at this)
  generalize World.drew _ = W at *
  obtain ⟨x0, x1, x2, x3, x4, x5, x6, x7, x8, x9, x10⟩ := row11 HR0.out
  obtain ⟨y0, y1, y2, y3, y4, y5, y6, y7, y8, y9, y10⟩ := row11 HR1.out
  have HL := Lib.hid (Array.getElem?_eq_some_iff.1 HR0.out).1
  cases E with
  | false =>
    rw [Bool.false_and]
    go_wp2_with fail
    refine bodyPost_ret (results_tmp (fn := Tryz.f15) (t := 2) rfl _ _ _) rfl ?_
    exact ⟨rfl, HB0.out⟩
  | true =>
    rw [Bool.true_and]
    cases F1 with
    | false =>
      rw [Bool.false_and]
      go_wp2_with (go_at_call 27; (with_reducible refine (HF1.out _).mono ?_); rintro e w1 ⟨rfl, hb1⟩)
      refine bodyPost_ret (results_tmp (fn := Tryz.f15) (t := 2) rfl _ _ _) rfl ?_
      exact ⟨rfl, HB0.out.trans (hb1.mono HB0.out.size)⟩
    | true =>
      rw [Bool.true_and]
      cases F2 with
      | false =>
        rw [Bool.false_and]
        go_wp2_with (first
          | (go_at_call 27; (with_reducible refine (HF2.out _).mono ?_); rintro e w2 ⟨rfl, hb2⟩)
          | (go_at_call 27; (with_reducible refine (HF1.out _).mono ?_); rintro e w1 ⟨rfl, hb1⟩; obtain ⟨z0, z1, z2, z3, z4, z5, z6, z7, z8, z9, z10⟩ := row11 ((hb1.block _ HL.out).trans HR0.out)))
        refine bodyPost_ret (results_tmp (fn := Tryz.f15) (t := 2) rfl _ _ _) rfl ?_
        exact ⟨rfl, HB0.out.trans ((hb1.trans (hb2.mono hb1.size)).mono HB0.out.size)⟩
      | true =>
        rw [Bool.true_and]
        go_wp2_with (first
          | (go_at_call 28; (with_reducible refine (HM.out _).mono ?_); rintro e w3 ⟨rfl, hb3⟩)
          | (go_at_call 27; (with_reducible refine (HF2.out _).mono ?_); rintro e w2 ⟨rfl, hb2⟩; obtain ⟨v0, v1, v2, v3, v4, v5, v6, v7, v8, v9, v10⟩ := row11 ((hb2.block _ (Nat.lt_of_lt_of_le HL.out hb1.size)).trans ((hb1.block _ HL.out).trans HR0.out)))
          | (go_at_call 27; (with_reducible refine (HF1.out _).mono ?_); rintro e w1 ⟨rfl, hb1⟩; obtain ⟨z0, z1, z2, z3, z4, z5, z6, z7, z8, z9, z10⟩ := row11 ((hb1.block _ HL.out).trans HR0.out)))
        refine bodyPost_ret (results_tmp (fn := Tryz.f15) (t := 2) rfl _ _ _) rfl ?_
        exact ⟨rfl, HB0.out.trans (((hb1.trans (hb2.mono hb1.size)).trans (hb3.mono (Nat.le_trans hb1.size hb2.size))).mono HB0.out.size)⟩
theorem mayO_any (k i q n o : Int) (s t : ByteArray) (a b c m : Int) (w : World) (hs : s.size ≤ 281474976710656) (ht : t.size ≤ 281474976710656) : Calls Tryz.prog 15 #[oV k i q n o s t a b c m] w (RetBelow (.bool (mayO k i q n o s t a b c m)) w) := by
  by_cases h0 : k = 0
  · subst h0; exact may0 _ _ _ _ _ _ _ _ _ _ _
  by_cases h1 : k = 1
  · subst h1; exact may1 _ _ _ _ _ _ _ _ _ _ _
  by_cases h2 : k = 2
  · subst h2; exact may2 _ _ _ _ _ _ _ _ _ _ _ hs ht
  by_cases h3 : k = 3
  · subst h3; exact may3 _ _ _ _ _ _ _ _ _ _ _
  by_cases h4 : k = 4
  · subst h4; exact may4 _ _ _ _ _ _ _ _ _ _ _
  by_cases h5 : k = 5
  · subst h5; exact may5 _ _ _ _ _ _ _ _ _ _ _ hs ht
  exact mayN _ _ _ _ _ _ _ _ _ _ _ _ h0 h1 h2 h3 h4 h5
end Go.Proofs.YtebacdegjmcnlaaGreat
