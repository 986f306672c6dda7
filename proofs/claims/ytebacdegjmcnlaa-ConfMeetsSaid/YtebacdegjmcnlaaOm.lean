/-
  Which orders are valid, as the program tells it. Condition: the texts have at most 2^48 bytes.
-/
import Derived.Test.YtebacdegjmcnlaaOd
import Derived.Test.YtebacdegjmcnlaaPt
namespace Go.Proofs.Ytebacdegjmcnlaa
set_option maxRecDepth 20000
open Go.RowKit Pl
set_option linter.unusedVariables false
def zC (o : Int) (s t : ByteArray) (a b c m : Int) : Bool := eqC o s t a b c m 0 ⟨#[]⟩ ⟨#[]⟩ 0 0 0 0
def mayO (k i q n o : Int) (s t : ByteArray) (a b c m : Int) : Bool :=
  if k = 0 then i == 0 && (q == 0 && (n == 0 && zC o s t a b c m))
  else if k = 1 ∨ k = 3 then (i == 0 && (q == 0 && zC o s t a b c m)) && (decide (0 ≤ n) && decide (n ≤ 4611686018427387904))
  else if k = 2 then n == 0 && ((decide (1 ≤ i) && decide (i ≤ 4611686018427387904)) && ((decide (1 ≤ q) && decide (q ≤ 4611686018427387904)) && mayC o s t a b c m))
  else if k = 4 then (i == 0 && (q == 0 && zC o s t a b c m)) && (decide (1 ≤ n) && decide (n ≤ 127))
  else if k = 5 then (i == 0 && (q == 0 && n == 0)) && (o == 7 && mayC o s t a b c m)
  else false
theorem eqC_self (o : Int) (s t : ByteArray) (a b c m : Int) : eqC o s t a b c m o s t a b c m = true := eqC_iff.2 ⟨rfl, rfl, rfl, ⟨rfl, rfl, rfl⟩, rfl⟩
/-- equality of two orders, for the walk -/
theorem qO (k i q n o : Int) (s t : ByteArray) (a b c m : Int) (k' i' q' n' o' : Int) (s' t' : ByteArray) (a' b' c' m' : Int) (E : Bool) (h : (k == k' && (i == i' && (q == q' && (n == n' && eqC o s t a b c m o' s' t' a' b' c' m')))) = E) (V : World) :
    (binOp .eql 43 (.agg #[.int .i64 k, .int .i64 i, .int .i64 q, .int .i64 n, .int .i64 o, .string s, .string t, .int .i64 a, .int .i64 b, .int .i64 c, .int .i64 m]) (.agg #[.int .i64 k', .int .i64 i', .int .i64 q', .int .i64 n', .int .i64 o', .string s', .string t', .int .i64 a', .int .i64 b', .int .i64 c', .int .i64 m'])).run Try.prog V = .ok (.bool E) V := by
  have := eqO_any k i q n o s t a b c m k' i' q' n' o' s' t' a' b' c' m' V
  rw [h] at this
  unfold oV at this
  rw [run_eql_struct, this]
  rfl
set_option maxHeartbeats 2000000 in
theorem may0 (i q n o : Int) (s t : ByteArray) (a b c m : Int) (w : World) : Calls Try.prog 25 #[oV 0 i q n o s t a b c m] w (RetBelow (.bool (mayO 0 i q n o s t a b c m)) w) := by
  obtain ⟨E, hEd⟩ : ∃ E, (i == 0 && (q == 0 && (n == 0 && zC o s t a b c m))) = E := ⟨_, rfl⟩
  have hE := qO 0 i q n o s t a b c m 0 0 0 0 0 ⟨#[]⟩ ⟨#[]⟩ 0 0 0 0 E (by rw [← hEd]; simp [zC])
  have hb : ∀ V : World, (Instr.build 43 #[(0, .int .i64 0)]).run Try.prog V = .ok (.agg #[.int .i64 0, .int .i64 0, .int .i64 0, .int .i64 0, .int .i64 0, .string ⟨#[]⟩, .string ⟨#[]⟩, .int .i64 0, .int .i64 0, .int .i64 0, .int .i64 0]) V := fun V => run_build V 43 _ _ (by kernel_rfl)
  rw [show mayO 0 i q n o s t a b c m = E from hEd]
  clear hEd
  unfold oV
  go_enter Try.func25, Try.ntmps25
  go_wp2_with fail
  refine bodyPost_ret (results_tmp (fn := Try.f25) (t := 2) rfl _ _ _) rfl ?_
  exact ⟨rfl, below_2 _ _ _⟩
set_option maxHeartbeats 2000000 in
theorem may1 (i q n o : Int) (s t : ByteArray) (a b c m : Int) (w : World) : Calls Try.prog 25 #[oV 1 i q n o s t a b c m] w (RetBelow (.bool (mayO 1 i q n o s t a b c m)) w) := by
  obtain ⟨E, hEd⟩ : ∃ E, (i == 0 && (q == 0 && zC o s t a b c m)) = E := ⟨_, rfl⟩
  have hE := qO 1 i q n o s t a b c m 1 0 0 n 0 ⟨#[]⟩ ⟨#[]⟩ 0 0 0 0 E (by rw [← hEd]; simp [zC])
  have hb : ∀ V : World, (Instr.build 43 #[(0, .int .i64 1)]).run Try.prog V = .ok (.agg #[.int .i64 1, .int .i64 0, .int .i64 0, .int .i64 0, .int .i64 0, .string ⟨#[]⟩, .string ⟨#[]⟩, .int .i64 0, .int .i64 0, .int .i64 0, .int .i64 0]) V := fun V => run_build V 43 _ _ (by kernel_rfl)
  rw [show mayO 1 i q n o s t a b c m = (E && (decide (0 ≤ n) && decide (n ≤ 4611686018427387904))) by rw [← hEd]; rfl]
  clear hEd
  have HF := Lib.hid fun X => from_any 0 n 4611686018427387904 X
  generalize (decide (0 ≤ n) && decide (n ≤ 4611686018427387904)) = F at *
  unfold oV
  cases E with
  | false =>
    rw [Bool.false_and]
    go_enter Try.func25, Try.ntmps25
    go_wp2_with fail
    refine bodyPost_ret (results_tmp (fn := Try.f25) (t := 2) rfl _ _ _) rfl ?_
    exact ⟨rfl, below_2 _ _ _⟩
  | true =>
    rw [Bool.true_and]
    go_enter Try.func25, Try.ntmps25
    go_wp2_with (go_at_call 33; (with_reducible refine (HF.out _).mono ?_); rintro e w1 ⟨rfl, hb1⟩)
    refine bodyPost_ret (results_tmp (fn := Try.f25) (t := 2) rfl _ _ _) rfl ?_
    exact ⟨rfl, (below_2 _ _ _).trans (hb1.mono (by simp; omega))⟩
set_option maxHeartbeats 2000000 in
theorem may3 (i q n o : Int) (s t : ByteArray) (a b c m : Int) (w : World) : Calls Try.prog 25 #[oV 3 i q n o s t a b c m] w (RetBelow (.bool (mayO 3 i q n o s t a b c m)) w) := by
  obtain ⟨E, hEd⟩ : ∃ E, (i == 0 && (q == 0 && zC o s t a b c m)) = E := ⟨_, rfl⟩
  have hE := qO 3 i q n o s t a b c m 3 0 0 n 0 ⟨#[]⟩ ⟨#[]⟩ 0 0 0 0 E (by rw [← hEd]; simp [zC])
  have hb : ∀ V : World, (Instr.build 43 #[(0, .int .i64 3)]).run Try.prog V = .ok (.agg #[.int .i64 3, .int .i64 0, .int .i64 0, .int .i64 0, .int .i64 0, .string ⟨#[]⟩, .string ⟨#[]⟩, .int .i64 0, .int .i64 0, .int .i64 0, .int .i64 0]) V := fun V => run_build V 43 _ _ (by kernel_rfl)
  rw [show mayO 3 i q n o s t a b c m = (E && (decide (0 ≤ n) && decide (n ≤ 4611686018427387904))) by rw [← hEd]; rfl]
  clear hEd
  have HF := Lib.hid fun X => from_any 0 n 4611686018427387904 X
  generalize (decide (0 ≤ n) && decide (n ≤ 4611686018427387904)) = F at *
  unfold oV
  cases E with
  | false =>
    rw [Bool.false_and]
    go_enter Try.func25, Try.ntmps25
    go_wp2_with fail
    refine bodyPost_ret (results_tmp (fn := Try.f25) (t := 2) rfl _ _ _) rfl ?_
    exact ⟨rfl, below_2 _ _ _⟩
  | true =>
    rw [Bool.true_and]
    go_enter Try.func25, Try.ntmps25
    go_wp2_with (go_at_call 33; (with_reducible refine (HF.out _).mono ?_); rintro e w1 ⟨rfl, hb1⟩)
    refine bodyPost_ret (results_tmp (fn := Try.f25) (t := 2) rfl _ _ _) rfl ?_
    exact ⟨rfl, (below_2 _ _ _).trans (hb1.mono (by simp; omega))⟩
set_option maxHeartbeats 2000000 in
theorem may4 (i q n o : Int) (s t : ByteArray) (a b c m : Int) (w : World) : Calls Try.prog 25 #[oV 4 i q n o s t a b c m] w (RetBelow (.bool (mayO 4 i q n o s t a b c m)) w) := by
  obtain ⟨E, hEd⟩ : ∃ E, (i == 0 && (q == 0 && zC o s t a b c m)) = E := ⟨_, rfl⟩
  have hE := qO 4 i q n o s t a b c m 4 0 0 n 0 ⟨#[]⟩ ⟨#[]⟩ 0 0 0 0 E (by rw [← hEd]; simp [zC])
  have hb : ∀ V : World, (Instr.build 43 #[(0, .int .i64 4)]).run Try.prog V = .ok (.agg #[.int .i64 4, .int .i64 0, .int .i64 0, .int .i64 0, .int .i64 0, .string ⟨#[]⟩, .string ⟨#[]⟩, .int .i64 0, .int .i64 0, .int .i64 0, .int .i64 0]) V := fun V => run_build V 43 _ _ (by kernel_rfl)
  rw [show mayO 4 i q n o s t a b c m = (E && (decide (1 ≤ n) && decide (n ≤ 127))) by rw [← hEd]; rfl]
  clear hEd
  have HF := Lib.hid fun X => from_any 1 n 127 X
  generalize (decide (1 ≤ n) && decide (n ≤ 127)) = F at *
  unfold oV
  cases E with
  | false =>
    rw [Bool.false_and]
    go_enter Try.func25, Try.ntmps25
    go_wp2_with fail
    refine bodyPost_ret (results_tmp (fn := Try.f25) (t := 2) rfl _ _ _) rfl ?_
    exact ⟨rfl, below_2 _ _ _⟩
  | true =>
    rw [Bool.true_and]
    go_enter Try.func25, Try.ntmps25
    go_wp2_with (go_at_call 33; (with_reducible refine (HF.out _).mono ?_); rintro e w1 ⟨rfl, hb1⟩)
    refine bodyPost_ret (results_tmp (fn := Try.f25) (t := 2) rfl _ _ _) rfl ?_
    exact ⟨rfl, (below_2 _ _ _).trans (hb1.mono (by simp; omega))⟩
set_option maxHeartbeats 2000000 in
theorem may5 (i q n o : Int) (s t : ByteArray) (a b c m : Int) (w : World) (hs : s.size ≤ 281474976710656) (ht : t.size ≤ 281474976710656) : Calls Try.prog 25 #[oV 5 i q n o s t a b c m] w (RetBelow (.bool (mayO 5 i q n o s t a b c m)) w) := by
  obtain ⟨E, hEd⟩ : ∃ E, (i == 0 && (q == 0 && n == 0)) = E := ⟨_, rfl⟩
  have hE := qO 5 i q n o s t a b c m 5 0 0 0 o s t a b c m E (by rw [← hEd]; simp [eqC_self])
  have hb : ∀ V : World, (Instr.build 43 #[(0, .int .i64 5)]).run Try.prog V = .ok (.agg #[.int .i64 5, .int .i64 0, .int .i64 0, .int .i64 0, .int .i64 0, .string ⟨#[]⟩, .string ⟨#[]⟩, .int .i64 0, .int .i64 0, .int .i64 0, .int .i64 0]) V := fun V => run_build V 43 _ _ (by kernel_rfl)
  have HM := Lib.hid fun X => may_any o s t a b c m X hs ht
  have HMy : Hid (mayO 5 i q n o s t a b c m = (E && (o == 7 && mayC o s t a b c m))) := Lib.hid (by rw [← hEd]; rfl)
  clear hEd hs ht
  rw [HMy.out]
  unfold oV
  unfold MayPost at HM
  generalize mayC o s t a b c m = F at *
  cases E with
  | false =>
    rw [Bool.false_and]
    go_enter Try.func25, Try.ntmps25
    go_wp2_with fail
    refine bodyPost_ret (results_tmp (fn := Try.f25) (t := 2) rfl _ _ _) rfl ?_
    exact ⟨rfl, below_2 _ _ _⟩
  | true =>
    rw [Bool.true_and]
    by_cases h7 : o = 7
    · subst h7
      rw [show ((7 : Int) == 7 && F) = F from by cases F <;> rfl]
      go_enter Try.func25, Try.ntmps25
      go_wp2_with (go_at_call 34; (with_reducible refine (HM.out _).mono ?_); rintro e w1 ⟨rfl, hb1⟩)
      refine bodyPost_ret (results_tmp (fn := Try.f25) (t := 2) rfl _ _ _) rfl ?_
      exact ⟨rfl, (below_2 _ _ _).trans (hb1.mono (by simp; omega))⟩
    · have g7 : decide (o = 7) = false := decide_eq_false h7
      rw [show (o == 7 && F) = false from by rw [show (o == 7) = false from by simpa using h7]; rfl]
      go_enter Try.func25, Try.ntmps25
      go_wp2_with fail
      refine bodyPost_ret (results_tmp (fn := Try.f25) (t := 2) rfl _ _ _) rfl ?_
      exact ⟨rfl, below_2 _ _ _⟩
set_option maxHeartbeats 2000000 in
theorem mayN (k i q n o : Int) (s t : ByteArray) (a b c m : Int) (w : World) (h0 : k ≠ 0) (h1 : k ≠ 1) (h2 : k ≠ 2) (h3 : k ≠ 3) (h4 : k ≠ 4) (h5 : k ≠ 5) : Calls Try.prog 25 #[oV k i q n o s t a b c m] w (RetBelow (.bool (mayO k i q n o s t a b c m)) w) := by
  have hb : ∀ V : World, (Instr.build 43 #[(0, .int .i64 k)]).run Try.prog V = .ok (.agg #[.int .i64 k, .int .i64 0, .int .i64 0, .int .i64 0, .int .i64 0, .string ⟨#[]⟩, .string ⟨#[]⟩, .int .i64 0, .int .i64 0, .int .i64 0, .int .i64 0]) V := fun V => run_build V 43 _ _ (by kernel_rfl)
  rw [show mayO k i q n o s t a b c m = false by unfold mayO; rw [if_neg h0, if_neg (fun h => h.elim h1 h3), if_neg h2, if_neg h4, if_neg h5]]
  have g0 := decide_eq_false h0
  have g1 := decide_eq_false h1
  have g2 := decide_eq_false h2
  have g3 := decide_eq_false h3
  have g4 := decide_eq_false h4
  have g5 := decide_eq_false h5
  unfold oV
  go_enter Try.func25, Try.ntmps25
  go_wp2_with fail
  refine bodyPost_ret (results_tmp (fn := Try.f25) (t := 2) rfl _ _ _) rfl ?_
  exact ⟨rfl, below_2 _ _ _⟩
end Go.Proofs.Ytebacdegjmcnlaa
