/-
  The document's own answer on which orders are valid, walked. Condition: the texts have at most 2^48 bytes.
-/
import Derived.Test.YtebacdegjmcnlaaGreatOa
import Derived.Test.YtebacdegjmcnlaaGreatUd
namespace Go.Proofs.YtebacdegjmcnlaaGreat
set_option maxRecDepth 20000
open Go.RowKit Pl
set_option linter.unusedVariables false
theorem within_any (l n m : Int) (w : World) : Calls Tryz.prog 24 #[.int .i64 n, .int .i64 l, .int .i64 m] w (RetBelow (.bool (decide (l ≤ n) && decide (n ≤ m))) w) := by
  cases h1 : decide (l ≤ n) with
  | false =>
    rw [Bool.false_and]
    go_enter Tryz.func24, Tryz.ntmps24
    go_wp2_with fail
    refine bodyPost_ret (results_tmp (fn := Tryz.f24) (t := 6) rfl _ _ _) rfl ?_
    exact ⟨rfl, Below.refl _ _⟩
  | true =>
    rw [Bool.true_and]
    go_enter Tryz.func24, Tryz.ntmps24
    go_wp2_with fail
    refine bodyPost_ret (results_tmp (fn := Tryz.f24) (t := 6) rfl _ _ _) rfl ?_
    exact ⟨rfl, Below.refl _ _⟩
theorem qC (o : Int) (s t : ByteArray) (a b c m : Int) (E : Bool) (h : zC o s t a b c m = E) (V : World) :
    (binOp .eql 32 (.agg #[.int .i64 o, .string s, .string t, .int .i64 a, .int .i64 b, .int .i64 c, .int .i64 m]) (.agg #[.int .i64 0, .string ⟨#[]⟩, .string ⟨#[]⟩, .int .i64 0, .int .i64 0, .int .i64 0, .int .i64 0])).run Tryz.prog V = .ok (.bool E) V := by
  have := eqC_any 9996 o s t a b c m 0 ⟨#[]⟩ ⟨#[]⟩ 0 0 0 0 V
  unfold zC at h
  rw [h] at this
  unfold cV at this
  rw [run_eql_struct, this]
  rfl
set_option maxHeartbeats 4000000 in
theorem rMay0 (i q n o : Int) (s t : ByteArray) (a b c m : Int) (w : World) : Calls Tryz.prog 40 #[oV 0 i q n o s t a b c m] w (RetBelow (.bool (mayO 0 i q n o s t a b c m)) w) := by
  obtain ⟨E, hE⟩ : ∃ E, zC o s t a b c m = E := ⟨_, rfl⟩
  have hq := qC o s t a b c m E hE
  have hbz : ∀ V : World, (Instr.build 32 #[]).run Tryz.prog V = .ok (.agg #[.int .i64 0, .string ⟨#[]⟩, .string ⟨#[]⟩, .int .i64 0, .int .i64 0, .int .i64 0, .int .i64 0]) V := fun V => run_build V 32 _ _ (by kernel_rfl)
  have HB := Lib.hid ((Below.refl w.heap.size w).alloc (Nat.le_refl _) (.cells #[.int .i64 0, .int .i64 i, .int .i64 q, .int .i64 n, .int .i64 o, .string s, .string t, .int .i64 a, .int .i64 b, .int .i64 c, .int .i64 m] 34))
  have HR := Lib.hid (heap_alloc_new w (.cells #[.int .i64 0, .int .i64 i, .int .i64 q, .int .i64 n, .int .i64 o, .string s, .string t, .int .i64 a, .int .i64 b, .int .i64 c, .int .i64 m] 34))
  obtain ⟨x0, x1, x2, x3, x4, x5, x6, x7, x8, x9, x10⟩ := row11 HR.out
  have HMy : Hid (mayO 0 i q n o s t a b c m = (i == 0 && (q == 0 && (n == 0 && E)))) := Lib.hid (by rw [← hE]; rfl)
  rw [HMy.out]
  clear HMy
  unfold oV
  clear hE HR
  by_cases hi : i = 0
  · have gi := decide_eq_true hi
    by_cases hq0 : q = 0
    · have gq := decide_eq_true hq0
      by_cases hn : n = 0
      · have gn := decide_eq_true hn
        subst hi hq0 hn
        cases E
        all_goals
          go_enter Tryz.func40, Tryz.ntmps40
          go_wp2_with fail
          refine bodyPost_ret (results_tmp (fn := Tryz.f40) (t := 2) rfl _ _ _) rfl ?_
          exact ⟨by first | rfl | (simp [ei]; done) | (simp [eq]; done) | (simp [en]; done) | (simp [eo]; done) | (simp; done) | simp_all, HB.out⟩
      · have gn := decide_eq_false hn
        have en : (n == 0) = false := by simpa using hn
        subst hi hq0
        cases E
        all_goals
          go_enter Tryz.func40, Tryz.ntmps40
          go_wp2_with fail
          refine bodyPost_ret (results_tmp (fn := Tryz.f40) (t := 2) rfl _ _ _) rfl ?_
          exact ⟨by first | rfl | (simp [ei]; done) | (simp [eq]; done) | (simp [en]; done) | (simp [eo]; done) | (simp; done) | simp_all, HB.out⟩
    · have gq := decide_eq_false hq0
      have eq : (q == 0) = false := by simpa using hq0
      subst hi
      by_cases hn : n = 0
      · have gn := decide_eq_true hn
        subst hn
        go_enter Tryz.func40, Tryz.ntmps40
        go_wp2_with fail
        refine bodyPost_ret (results_tmp (fn := Tryz.f40) (t := 2) rfl _ _ _) rfl ?_
        exact ⟨by first | rfl | (simp [ei]; done) | (simp [eq]; done) | (simp [en]; done) | (simp [eo]; done) | (simp; done) | simp_all, HB.out⟩
      · have gn := decide_eq_false hn
        have en : (n == 0) = false := by simpa using hn
        go_enter Tryz.func40, Tryz.ntmps40
        go_wp2_with fail
        refine bodyPost_ret (results_tmp (fn := Tryz.f40) (t := 2) rfl _ _ _) rfl ?_
        exact ⟨by first | rfl | (simp [ei]; done) | (simp [eq]; done) | (simp [en]; done) | (simp [eo]; done) | (simp; done) | simp_all, HB.out⟩
  · have gi := decide_eq_false hi
    have ei : (i == 0) = false := by simpa using hi
    by_cases hn : n = 0
    · have gn := decide_eq_true hn
      subst hn
      go_enter Tryz.func40, Tryz.ntmps40
      go_wp2_with fail
      refine bodyPost_ret (results_tmp (fn := Tryz.f40) (t := 2) rfl _ _ _) rfl ?_
      exact ⟨by first | rfl | (simp [ei]; done) | (simp [eq]; done) | (simp [en]; done) | (simp [eo]; done) | (simp; done) | simp_all, HB.out⟩
    · have gn := decide_eq_false hn
      have en : (n == 0) = false := by simpa using hn
      go_enter Tryz.func40, Tryz.ntmps40
      go_wp2_with fail
      refine bodyPost_ret (results_tmp (fn := Tryz.f40) (t := 2) rfl _ _ _) rfl ?_
      exact ⟨by first | rfl | (simp [ei]; done) | (simp [eq]; done) | (simp [en]; done) | (simp [eo]; done) | (simp; done) | simp_all, HB.out⟩
set_option maxHeartbeats 4000000 in
theorem rMay1 (i q n o : Int) (s t : ByteArray) (a b c m : Int) (w : World) : Calls Tryz.prog 40 #[oV 1 i q n o s t a b c m] w (RetBelow (.bool (mayO 1 i q n o s t a b c m)) w) := by
  obtain ⟨E, hE⟩ : ∃ E, zC o s t a b c m = E := ⟨_, rfl⟩
  have hq := qC o s t a b c m E hE
  have hbz : ∀ V : World, (Instr.build 32 #[]).run Tryz.prog V = .ok (.agg #[.int .i64 0, .string ⟨#[]⟩, .string ⟨#[]⟩, .int .i64 0, .int .i64 0, .int .i64 0, .int .i64 0]) V := fun V => run_build V 32 _ _ (by kernel_rfl)
  have HB := Lib.hid ((Below.refl w.heap.size w).alloc (Nat.le_refl _) (.cells #[.int .i64 1, .int .i64 i, .int .i64 q, .int .i64 n, .int .i64 o, .string s, .string t, .int .i64 a, .int .i64 b, .int .i64 c, .int .i64 m] 34))
  have HR := Lib.hid (heap_alloc_new w (.cells #[.int .i64 1, .int .i64 i, .int .i64 q, .int .i64 n, .int .i64 o, .string s, .string t, .int .i64 a, .int .i64 b, .int .i64 c, .int .i64 m] 34))
  obtain ⟨x0, x1, x2, x3, x4, x5, x6, x7, x8, x9, x10⟩ := row11 HR.out
  have HMy : Hid (mayO 1 i q n o s t a b c m = ((i == 0 && (q == 0 && E)) && (decide (0 ≤ n) && decide (n ≤ 4611686018427387904)))) := Lib.hid (by rw [← hE]; rfl)
  have HF := Lib.hid fun X => within_any 0 n 4611686018427387904 X
  generalize (decide (0 ≤ n) && decide (n ≤ 4611686018427387904)) = F at *
  rw [HMy.out]
  clear HMy
  unfold oV
  clear hE HR
  by_cases hi : i = 0
  · have gi := decide_eq_true hi
    by_cases hq0 : q = 0
    · have gq := decide_eq_true hq0
      by_cases hn : n = 0
      · have gn := decide_eq_true hn
        subst hi hq0 hn
        cases E
        all_goals
          go_enter Tryz.func40, Tryz.ntmps40
          go_wp2_with (first
              | (go_at_call 24; (with_reducible refine (HF.out _).mono ?_); rintro e w1 ⟨rfl, hb⟩; have HB := Lib.hid (HB.out.trans (hb.mono HB.out.size)); clear hb))
          refine bodyPost_ret (results_tmp (fn := Tryz.f40) (t := 2) rfl _ _ _) rfl ?_
          exact ⟨by first | rfl | (simp [ei]; done) | (simp [eq]; done) | (simp [en]; done) | (simp [eo]; done) | (simp; done) | simp_all, HB.out⟩
      · have gn := decide_eq_false hn
        have en : (n == 0) = false := by simpa using hn
        subst hi hq0
        cases E
        all_goals
          go_enter Tryz.func40, Tryz.ntmps40
          go_wp2_with (first
              | (go_at_call 24; (with_reducible refine (HF.out _).mono ?_); rintro e w1 ⟨rfl, hb⟩; have HB := Lib.hid (HB.out.trans (hb.mono HB.out.size)); clear hb))
          refine bodyPost_ret (results_tmp (fn := Tryz.f40) (t := 2) rfl _ _ _) rfl ?_
          exact ⟨by first | rfl | (simp [ei]; done) | (simp [eq]; done) | (simp [en]; done) | (simp [eo]; done) | (simp; done) | simp_all, HB.out⟩
    · have gq := decide_eq_false hq0
      have eq : (q == 0) = false := by simpa using hq0
      subst hi
      go_enter Tryz.func40, Tryz.ntmps40
      go_wp2_with (first
          | (go_at_call 24; (with_reducible refine (HF.out _).mono ?_); rintro e w1 ⟨rfl, hb⟩; have HB := Lib.hid (HB.out.trans (hb.mono HB.out.size)); clear hb))
      refine bodyPost_ret (results_tmp (fn := Tryz.f40) (t := 2) rfl _ _ _) rfl ?_
      exact ⟨by first | rfl | (simp [ei]; done) | (simp [eq]; done) | (simp [en]; done) | (simp [eo]; done) | (simp; done) | simp_all, HB.out⟩
  · have gi := decide_eq_false hi
    have ei : (i == 0) = false := by simpa using hi
    go_enter Tryz.func40, Tryz.ntmps40
    go_wp2_with (first
        | (go_at_call 24; (with_reducible refine (HF.out _).mono ?_); rintro e w1 ⟨rfl, hb⟩; have HB := Lib.hid (HB.out.trans (hb.mono HB.out.size)); clear hb))
    refine bodyPost_ret (results_tmp (fn := Tryz.f40) (t := 2) rfl _ _ _) rfl ?_
    exact ⟨by first | rfl | (simp [ei]; done) | (simp [eq]; done) | (simp [en]; done) | (simp [eo]; done) | (simp; done) | simp_all, HB.out⟩
set_option maxHeartbeats 4000000 in
theorem rMay3 (i q n o : Int) (s t : ByteArray) (a b c m : Int) (w : World) : Calls Tryz.prog 40 #[oV 3 i q n o s t a b c m] w (RetBelow (.bool (mayO 3 i q n o s t a b c m)) w) := by
  obtain ⟨E, hE⟩ : ∃ E, zC o s t a b c m = E := ⟨_, rfl⟩
  have hq := qC o s t a b c m E hE
  have hbz : ∀ V : World, (Instr.build 32 #[]).run Tryz.prog V = .ok (.agg #[.int .i64 0, .string ⟨#[]⟩, .string ⟨#[]⟩, .int .i64 0, .int .i64 0, .int .i64 0, .int .i64 0]) V := fun V => run_build V 32 _ _ (by kernel_rfl)
  have HB := Lib.hid ((Below.refl w.heap.size w).alloc (Nat.le_refl _) (.cells #[.int .i64 3, .int .i64 i, .int .i64 q, .int .i64 n, .int .i64 o, .string s, .string t, .int .i64 a, .int .i64 b, .int .i64 c, .int .i64 m] 34))
  have HR := Lib.hid (heap_alloc_new w (.cells #[.int .i64 3, .int .i64 i, .int .i64 q, .int .i64 n, .int .i64 o, .string s, .string t, .int .i64 a, .int .i64 b, .int .i64 c, .int .i64 m] 34))
  obtain ⟨x0, x1, x2, x3, x4, x5, x6, x7, x8, x9, x10⟩ := row11 HR.out
  have HMy : Hid (mayO 3 i q n o s t a b c m = ((i == 0 && (q == 0 && E)) && (decide (0 ≤ n) && decide (n ≤ 4611686018427387904)))) := Lib.hid (by rw [← hE]; rfl)
  have HF := Lib.hid fun X => within_any 0 n 4611686018427387904 X
  generalize (decide (0 ≤ n) && decide (n ≤ 4611686018427387904)) = F at *
  rw [HMy.out]
  clear HMy
  unfold oV
  clear hE HR
  by_cases hi : i = 0
  · have gi := decide_eq_true hi
    by_cases hq0 : q = 0
    · have gq := decide_eq_true hq0
      by_cases hn : n = 0
      · have gn := decide_eq_true hn
        subst hi hq0 hn
        cases E
        all_goals
          go_enter Tryz.func40, Tryz.ntmps40
          go_wp2_with (first
              | (go_at_call 24; (with_reducible refine (HF.out _).mono ?_); rintro e w1 ⟨rfl, hb⟩; have HB := Lib.hid (HB.out.trans (hb.mono HB.out.size)); clear hb))
          refine bodyPost_ret (results_tmp (fn := Tryz.f40) (t := 2) rfl _ _ _) rfl ?_
          exact ⟨by first | rfl | (simp [ei]; done) | (simp [eq]; done) | (simp [en]; done) | (simp [eo]; done) | (simp; done) | simp_all, HB.out⟩
      · have gn := decide_eq_false hn
        have en : (n == 0) = false := by simpa using hn
        subst hi hq0
        cases E
        all_goals
          go_enter Tryz.func40, Tryz.ntmps40
          go_wp2_with (first
              | (go_at_call 24; (with_reducible refine (HF.out _).mono ?_); rintro e w1 ⟨rfl, hb⟩; have HB := Lib.hid (HB.out.trans (hb.mono HB.out.size)); clear hb))
          refine bodyPost_ret (results_tmp (fn := Tryz.f40) (t := 2) rfl _ _ _) rfl ?_
          exact ⟨by first | rfl | (simp [ei]; done) | (simp [eq]; done) | (simp [en]; done) | (simp [eo]; done) | (simp; done) | simp_all, HB.out⟩
    · have gq := decide_eq_false hq0
      have eq : (q == 0) = false := by simpa using hq0
      subst hi
      go_enter Tryz.func40, Tryz.ntmps40
      go_wp2_with (first
          | (go_at_call 24; (with_reducible refine (HF.out _).mono ?_); rintro e w1 ⟨rfl, hb⟩; have HB := Lib.hid (HB.out.trans (hb.mono HB.out.size)); clear hb))
      refine bodyPost_ret (results_tmp (fn := Tryz.f40) (t := 2) rfl _ _ _) rfl ?_
      exact ⟨by first | rfl | (simp [ei]; done) | (simp [eq]; done) | (simp [en]; done) | (simp [eo]; done) | (simp; done) | simp_all, HB.out⟩
  · have gi := decide_eq_false hi
    have ei : (i == 0) = false := by simpa using hi
    go_enter Tryz.func40, Tryz.ntmps40
    go_wp2_with (first
        | (go_at_call 24; (with_reducible refine (HF.out _).mono ?_); rintro e w1 ⟨rfl, hb⟩; have HB := Lib.hid (HB.out.trans (hb.mono HB.out.size)); clear hb))
    refine bodyPost_ret (results_tmp (fn := Tryz.f40) (t := 2) rfl _ _ _) rfl ?_
    exact ⟨by first | rfl | (simp [ei]; done) | (simp [eq]; done) | (simp [en]; done) | (simp [eo]; done) | (simp; done) | simp_all, HB.out⟩
set_option maxHeartbeats 4000000 in
theorem rMay4 (i q n o : Int) (s t : ByteArray) (a b c m : Int) (w : World) : Calls Tryz.prog 40 #[oV 4 i q n o s t a b c m] w (RetBelow (.bool (mayO 4 i q n o s t a b c m)) w) := by
  obtain ⟨E, hE⟩ : ∃ E, zC o s t a b c m = E := ⟨_, rfl⟩
  have hq := qC o s t a b c m E hE
  have hbz : ∀ V : World, (Instr.build 32 #[]).run Tryz.prog V = .ok (.agg #[.int .i64 0, .string ⟨#[]⟩, .string ⟨#[]⟩, .int .i64 0, .int .i64 0, .int .i64 0, .int .i64 0]) V := fun V => run_build V 32 _ _ (by kernel_rfl)
  have HB := Lib.hid ((Below.refl w.heap.size w).alloc (Nat.le_refl _) (.cells #[.int .i64 4, .int .i64 i, .int .i64 q, .int .i64 n, .int .i64 o, .string s, .string t, .int .i64 a, .int .i64 b, .int .i64 c, .int .i64 m] 34))
  have HR := Lib.hid (heap_alloc_new w (.cells #[.int .i64 4, .int .i64 i, .int .i64 q, .int .i64 n, .int .i64 o, .string s, .string t, .int .i64 a, .int .i64 b, .int .i64 c, .int .i64 m] 34))
  obtain ⟨x0, x1, x2, x3, x4, x5, x6, x7, x8, x9, x10⟩ := row11 HR.out
  have HMy : Hid (mayO 4 i q n o s t a b c m = ((i == 0 && (q == 0 && E)) && (decide (1 ≤ n) && decide (n ≤ 127)))) := Lib.hid (by rw [← hE]; rfl)
  have HF := Lib.hid fun X => within_any 1 n 127 X
  generalize (decide (1 ≤ n) && decide (n ≤ 127)) = F at *
  rw [HMy.out]
  clear HMy
  unfold oV
  clear hE HR
  by_cases hi : i = 0
  · have gi := decide_eq_true hi
    by_cases hq0 : q = 0
    · have gq := decide_eq_true hq0
      by_cases hn : n = 0
      · have gn := decide_eq_true hn
        subst hi hq0 hn
        cases E
        all_goals
          go_enter Tryz.func40, Tryz.ntmps40
          go_wp2_with (first
              | (go_at_call 24; (with_reducible refine (HF.out _).mono ?_); rintro e w1 ⟨rfl, hb⟩; have HB := Lib.hid (HB.out.trans (hb.mono HB.out.size)); clear hb))
          refine bodyPost_ret (results_tmp (fn := Tryz.f40) (t := 2) rfl _ _ _) rfl ?_
          exact ⟨by first | rfl | (simp [ei]; done) | (simp [eq]; done) | (simp [en]; done) | (simp [eo]; done) | (simp; done) | simp_all, HB.out⟩
      · have gn := decide_eq_false hn
        have en : (n == 0) = false := by simpa using hn
        subst hi hq0
        cases E
        all_goals
          go_enter Tryz.func40, Tryz.ntmps40
          go_wp2_with (first
              | (go_at_call 24; (with_reducible refine (HF.out _).mono ?_); rintro e w1 ⟨rfl, hb⟩; have HB := Lib.hid (HB.out.trans (hb.mono HB.out.size)); clear hb))
          refine bodyPost_ret (results_tmp (fn := Tryz.f40) (t := 2) rfl _ _ _) rfl ?_
          exact ⟨by first | rfl | (simp [ei]; done) | (simp [eq]; done) | (simp [en]; done) | (simp [eo]; done) | (simp; done) | simp_all, HB.out⟩
    · have gq := decide_eq_false hq0
      have eq : (q == 0) = false := by simpa using hq0
      subst hi
      go_enter Tryz.func40, Tryz.ntmps40
      go_wp2_with (first
          | (go_at_call 24; (with_reducible refine (HF.out _).mono ?_); rintro e w1 ⟨rfl, hb⟩; have HB := Lib.hid (HB.out.trans (hb.mono HB.out.size)); clear hb))
      refine bodyPost_ret (results_tmp (fn := Tryz.f40) (t := 2) rfl _ _ _) rfl ?_
      exact ⟨by first | rfl | (simp [ei]; done) | (simp [eq]; done) | (simp [en]; done) | (simp [eo]; done) | (simp; done) | simp_all, HB.out⟩
  · have gi := decide_eq_false hi
    have ei : (i == 0) = false := by simpa using hi
    go_enter Tryz.func40, Tryz.ntmps40
    go_wp2_with (first
        | (go_at_call 24; (with_reducible refine (HF.out _).mono ?_); rintro e w1 ⟨rfl, hb⟩; have HB := Lib.hid (HB.out.trans (hb.mono HB.out.size)); clear hb))
    refine bodyPost_ret (results_tmp (fn := Tryz.f40) (t := 2) rfl _ _ _) rfl ?_
    exact ⟨by first | rfl | (simp [ei]; done) | (simp [eq]; done) | (simp [en]; done) | (simp [eo]; done) | (simp; done) | simp_all, HB.out⟩
set_option maxHeartbeats 4000000 in
theorem rMay5 (i q n o : Int) (s t : ByteArray) (a b c m : Int) (w : World) (hs : s.size ≤ 281474976710656) (ht : t.size ≤ 281474976710656) : Calls Tryz.prog 40 #[oV 5 i q n o s t a b c m] w (RetBelow (.bool (mayO 5 i q n o s t a b c m)) w) := by
  obtain ⟨E, hE⟩ : ∃ E, zC o s t a b c m = E := ⟨_, rfl⟩
  have hq := qC o s t a b c m E hE
  have hbz : ∀ V : World, (Instr.build 32 #[]).run Tryz.prog V = .ok (.agg #[.int .i64 0, .string ⟨#[]⟩, .string ⟨#[]⟩, .int .i64 0, .int .i64 0, .int .i64 0, .int .i64 0]) V := fun V => run_build V 32 _ _ (by kernel_rfl)
  have HB := Lib.hid ((Below.refl w.heap.size w).alloc (Nat.le_refl _) (.cells #[.int .i64 5, .int .i64 i, .int .i64 q, .int .i64 n, .int .i64 o, .string s, .string t, .int .i64 a, .int .i64 b, .int .i64 c, .int .i64 m] 34))
  have HR := Lib.hid (heap_alloc_new w (.cells #[.int .i64 5, .int .i64 i, .int .i64 q, .int .i64 n, .int .i64 o, .string s, .string t, .int .i64 a, .int .i64 b, .int .i64 c, .int .i64 m] 34))
  obtain ⟨x0, x1, x2, x3, x4, x5, x6, x7, x8, x9, x10⟩ := row11 HR.out
  have HMy : Hid (mayO 5 i q n o s t a b c m = ((i == 0 && (q == 0 && n == 0)) && (o == 7 && mayC o s t a b c m))) := Lib.hid rfl
  have HM := Lib.hid fun X => refMay_any o s t a b c m X hs ht
  unfold MayPost at HM
  generalize mayC o s t a b c m = F at *
  clear hs ht
  rw [HMy.out]
  clear HMy
  unfold oV
  clear hE HR
  by_cases hi : i = 0
  · have gi := decide_eq_true hi
    by_cases hq0 : q = 0
    · have gq := decide_eq_true hq0
      by_cases hn : n = 0
      · have gn := decide_eq_true hn
        subst hi hq0 hn
        cases E
        all_goals
          by_cases ho : o = 7
          · subst ho
            go_enter Tryz.func40, Tryz.ntmps40
            go_wp2_with (first
                | (go_at_call 65; (with_reducible refine (HM.out _).mono ?_); rintro e w1 ⟨rfl, hb⟩; have HB := Lib.hid (HB.out.trans (hb.mono HB.out.size)); clear hb))
            refine bodyPost_ret (results_tmp (fn := Tryz.f40) (t := 2) rfl _ _ _) rfl ?_
            exact ⟨by first | rfl | (simp [ei]; done) | (simp [eq]; done) | (simp [en]; done) | (simp [eo]; done) | (simp; done) | simp_all, HB.out⟩
          · have go := decide_eq_false ho
            have eo : (o == 7) = false := by simpa using ho
            go_enter Tryz.func40, Tryz.ntmps40
            go_wp2_with (first
                | (go_at_call 65; (with_reducible refine (HM.out _).mono ?_); rintro e w1 ⟨rfl, hb⟩; have HB := Lib.hid (HB.out.trans (hb.mono HB.out.size)); clear hb))
            refine bodyPost_ret (results_tmp (fn := Tryz.f40) (t := 2) rfl _ _ _) rfl ?_
            exact ⟨by first | rfl | (simp [ei]; done) | (simp [eq]; done) | (simp [en]; done) | (simp [eo]; done) | (simp; done) | simp_all, HB.out⟩
      · have gn := decide_eq_false hn
        have en : (n == 0) = false := by simpa using hn
        subst hi hq0
        cases E
        all_goals
          by_cases ho : o = 7
          · subst ho
            go_enter Tryz.func40, Tryz.ntmps40
            go_wp2_with (first
                | (go_at_call 65; (with_reducible refine (HM.out _).mono ?_); rintro e w1 ⟨rfl, hb⟩; have HB := Lib.hid (HB.out.trans (hb.mono HB.out.size)); clear hb))
            refine bodyPost_ret (results_tmp (fn := Tryz.f40) (t := 2) rfl _ _ _) rfl ?_
            exact ⟨by first | rfl | (simp [ei]; done) | (simp [eq]; done) | (simp [en]; done) | (simp [eo]; done) | (simp; done) | simp_all, HB.out⟩
          · have go := decide_eq_false ho
            have eo : (o == 7) = false := by simpa using ho
            go_enter Tryz.func40, Tryz.ntmps40
            go_wp2_with (first
                | (go_at_call 65; (with_reducible refine (HM.out _).mono ?_); rintro e w1 ⟨rfl, hb⟩; have HB := Lib.hid (HB.out.trans (hb.mono HB.out.size)); clear hb))
            refine bodyPost_ret (results_tmp (fn := Tryz.f40) (t := 2) rfl _ _ _) rfl ?_
            exact ⟨by first | rfl | (simp [ei]; done) | (simp [eq]; done) | (simp [en]; done) | (simp [eo]; done) | (simp; done) | simp_all, HB.out⟩
    · have gq := decide_eq_false hq0
      have eq : (q == 0) = false := by simpa using hq0
      subst hi
      by_cases hn : n = 0
      · have gn := decide_eq_true hn
        subst hn
        by_cases ho : o = 7
        · subst ho
          go_enter Tryz.func40, Tryz.ntmps40
          go_wp2_with (first
              | (go_at_call 65; (with_reducible refine (HM.out _).mono ?_); rintro e w1 ⟨rfl, hb⟩; have HB := Lib.hid (HB.out.trans (hb.mono HB.out.size)); clear hb))
          refine bodyPost_ret (results_tmp (fn := Tryz.f40) (t := 2) rfl _ _ _) rfl ?_
          exact ⟨by first | rfl | (simp [ei]; done) | (simp [eq]; done) | (simp [en]; done) | (simp [eo]; done) | (simp; done) | simp_all, HB.out⟩
        · have go := decide_eq_false ho
          have eo : (o == 7) = false := by simpa using ho
          go_enter Tryz.func40, Tryz.ntmps40
          go_wp2_with (first
              | (go_at_call 65; (with_reducible refine (HM.out _).mono ?_); rintro e w1 ⟨rfl, hb⟩; have HB := Lib.hid (HB.out.trans (hb.mono HB.out.size)); clear hb))
          refine bodyPost_ret (results_tmp (fn := Tryz.f40) (t := 2) rfl _ _ _) rfl ?_
          exact ⟨by first | rfl | (simp [ei]; done) | (simp [eq]; done) | (simp [en]; done) | (simp [eo]; done) | (simp; done) | simp_all, HB.out⟩
      · have gn := decide_eq_false hn
        have en : (n == 0) = false := by simpa using hn
        by_cases ho : o = 7
        · subst ho
          go_enter Tryz.func40, Tryz.ntmps40
          go_wp2_with (first
              | (go_at_call 65; (with_reducible refine (HM.out _).mono ?_); rintro e w1 ⟨rfl, hb⟩; have HB := Lib.hid (HB.out.trans (hb.mono HB.out.size)); clear hb))
          refine bodyPost_ret (results_tmp (fn := Tryz.f40) (t := 2) rfl _ _ _) rfl ?_
          exact ⟨by first | rfl | (simp [ei]; done) | (simp [eq]; done) | (simp [en]; done) | (simp [eo]; done) | (simp; done) | simp_all, HB.out⟩
        · have go := decide_eq_false ho
          have eo : (o == 7) = false := by simpa using ho
          go_enter Tryz.func40, Tryz.ntmps40
          go_wp2_with (first
              | (go_at_call 65; (with_reducible refine (HM.out _).mono ?_); rintro e w1 ⟨rfl, hb⟩; have HB := Lib.hid (HB.out.trans (hb.mono HB.out.size)); clear hb))
          refine bodyPost_ret (results_tmp (fn := Tryz.f40) (t := 2) rfl _ _ _) rfl ?_
          exact ⟨by first | rfl | (simp [ei]; done) | (simp [eq]; done) | (simp [en]; done) | (simp [eo]; done) | (simp; done) | simp_all, HB.out⟩
  · have gi := decide_eq_false hi
    have ei : (i == 0) = false := by simpa using hi
    by_cases hn : n = 0
    · have gn := decide_eq_true hn
      subst hn
      by_cases ho : o = 7
      · subst ho
        go_enter Tryz.func40, Tryz.ntmps40
        go_wp2_with (first
            | (go_at_call 65; (with_reducible refine (HM.out _).mono ?_); rintro e w1 ⟨rfl, hb⟩; have HB := Lib.hid (HB.out.trans (hb.mono HB.out.size)); clear hb))
        refine bodyPost_ret (results_tmp (fn := Tryz.f40) (t := 2) rfl _ _ _) rfl ?_
        exact ⟨by first | rfl | (simp [ei]; done) | (simp [eq]; done) | (simp [en]; done) | (simp [eo]; done) | (simp; done) | simp_all, HB.out⟩
      · have go := decide_eq_false ho
        have eo : (o == 7) = false := by simpa using ho
        go_enter Tryz.func40, Tryz.ntmps40
        go_wp2_with (first
            | (go_at_call 65; (with_reducible refine (HM.out _).mono ?_); rintro e w1 ⟨rfl, hb⟩; have HB := Lib.hid (HB.out.trans (hb.mono HB.out.size)); clear hb))
        refine bodyPost_ret (results_tmp (fn := Tryz.f40) (t := 2) rfl _ _ _) rfl ?_
        exact ⟨by first | rfl | (simp [ei]; done) | (simp [eq]; done) | (simp [en]; done) | (simp [eo]; done) | (simp; done) | simp_all, HB.out⟩
    · have gn := decide_eq_false hn
      have en : (n == 0) = false := by simpa using hn
      by_cases ho : o = 7
      · subst ho
        go_enter Tryz.func40, Tryz.ntmps40
        go_wp2_with (first
            | (go_at_call 65; (with_reducible refine (HM.out _).mono ?_); rintro e w1 ⟨rfl, hb⟩; have HB := Lib.hid (HB.out.trans (hb.mono HB.out.size)); clear hb))
        refine bodyPost_ret (results_tmp (fn := Tryz.f40) (t := 2) rfl _ _ _) rfl ?_
        exact ⟨by first | rfl | (simp [ei]; done) | (simp [eq]; done) | (simp [en]; done) | (simp [eo]; done) | (simp; done) | simp_all, HB.out⟩
      · have go := decide_eq_false ho
        have eo : (o == 7) = false := by simpa using ho
        go_enter Tryz.func40, Tryz.ntmps40
        go_wp2_with (first
            | (go_at_call 65; (with_reducible refine (HM.out _).mono ?_); rintro e w1 ⟨rfl, hb⟩; have HB := Lib.hid (HB.out.trans (hb.mono HB.out.size)); clear hb))
        refine bodyPost_ret (results_tmp (fn := Tryz.f40) (t := 2) rfl _ _ _) rfl ?_
        exact ⟨by first | rfl | (simp [ei]; done) | (simp [eq]; done) | (simp [en]; done) | (simp [eo]; done) | (simp; done) | simp_all, HB.out⟩
set_option maxHeartbeats 4000000 in
theorem rMay2 (i q n o : Int) (s t : ByteArray) (a b c m : Int) (w : World) (hs : s.size ≤ 281474976710656) (ht : t.size ≤ 281474976710656) : Calls Tryz.prog 40 #[oV 2 i q n o s t a b c m] w (RetBelow (.bool (mayO 2 i q n o s t a b c m)) w) := by
  obtain ⟨E, hE⟩ : ∃ E, zC o s t a b c m = E := ⟨_, rfl⟩
  have hq := qC o s t a b c m E hE
  have hbz : ∀ V : World, (Instr.build 32 #[]).run Tryz.prog V = .ok (.agg #[.int .i64 0, .string ⟨#[]⟩, .string ⟨#[]⟩, .int .i64 0, .int .i64 0, .int .i64 0, .int .i64 0]) V := fun V => run_build V 32 _ _ (by kernel_rfl)
  have HB := Lib.hid ((Below.refl w.heap.size w).alloc (Nat.le_refl _) (.cells #[.int .i64 2, .int .i64 i, .int .i64 q, .int .i64 n, .int .i64 o, .string s, .string t, .int .i64 a, .int .i64 b, .int .i64 c, .int .i64 m] 34))
  have HR := Lib.hid (heap_alloc_new w (.cells #[.int .i64 2, .int .i64 i, .int .i64 q, .int .i64 n, .int .i64 o, .string s, .string t, .int .i64 a, .int .i64 b, .int .i64 c, .int .i64 m] 34))
  obtain ⟨x0, x1, x2, x3, x4, x5, x6, x7, x8, x9, x10⟩ := row11 HR.out
  have HMy : Hid (mayO 2 i q n o s t a b c m = (n == 0 && ((decide (1 ≤ i) && decide (i ≤ 4611686018427387904)) && ((decide (1 ≤ q) && decide (q ≤ 4611686018427387904)) && mayC o s t a b c m)))) := Lib.hid rfl
  have HM := Lib.hid fun X => refMay_any o s t a b c m X hs ht
  unfold MayPost at HM
  generalize mayC o s t a b c m = F at *
  clear hs ht
  have HF1 := Lib.hid fun X => within_any 1 i 4611686018427387904 X
  have HF2 := Lib.hid fun X => within_any 1 q 4611686018427387904 X
  rw [HMy.out]
  clear HMy hE
  unfold oV
  by_cases hi : i = 0
  · have e1 : (decide (1 ≤ i) && decide (i ≤ 4611686018427387904)) = false := by rw [hi]; decide
    rw [e1] at HF1
    rw [e1, Bool.false_and, Bool.and_false]
    subst hi
    clear HF2 e1
    by_cases hq0 : q = 0
    · have gq := decide_eq_true hq0
      subst hq0
      by_cases hn : n = 0
      · have gn := decide_eq_true hn
        subst hn
        cases E
        all_goals
          go_enter Tryz.func40, Tryz.ntmps40
          go_wp2_with (go_at_call 24; (with_reducible refine (HF1.out _).mono ?_); rintro e w1 ⟨rfl, hb⟩; have HB := Lib.hid (HB.out.trans (hb.mono HB.out.size)); clear hb)
          refine bodyPost_ret (results_tmp (fn := Tryz.f40) (t := 2) rfl _ _ _) rfl ?_
          exact ⟨rfl, HB.out⟩
      · have gn := decide_eq_false hn
        cases E
        all_goals
          go_enter Tryz.func40, Tryz.ntmps40
          go_wp2_with fail
          refine bodyPost_ret (results_tmp (fn := Tryz.f40) (t := 2) rfl _ _ _) rfl ?_
          exact ⟨rfl, HB.out⟩
    · have gq := decide_eq_false hq0
      by_cases hn : n = 0
      · have gn := decide_eq_true hn
        subst hn
        go_enter Tryz.func40, Tryz.ntmps40
        go_wp2_with (go_at_call 24; (with_reducible refine (HF1.out _).mono ?_); rintro e w1 ⟨rfl, hb⟩; have HB := Lib.hid (HB.out.trans (hb.mono HB.out.size)); clear hb)
        refine bodyPost_ret (results_tmp (fn := Tryz.f40) (t := 2) rfl _ _ _) rfl ?_
        exact ⟨rfl, HB.out⟩
      · have gn := decide_eq_false hn
        go_enter Tryz.func40, Tryz.ntmps40
        go_wp2_with fail
        refine bodyPost_ret (results_tmp (fn := Tryz.f40) (t := 2) rfl _ _ _) rfl ?_
        exact ⟨rfl, HB.out⟩
  · have gi := decide_eq_false hi
    generalize (decide (1 ≤ i) && decide (i ≤ 4611686018427387904)) = F1 at *
    generalize (decide (1 ≤ q) && decide (q ≤ 4611686018427387904)) = F2 at *
    by_cases hn : n = 0
    · have gn := decide_eq_true hn
      subst hn
      cases F1 <;> cases F2
      all_goals
        go_enter Tryz.func40, Tryz.ntmps40
        go_wp2_with (first
          | (go_at_call 65; (with_reducible refine (HM.out _).mono ?_); rintro e w1 ⟨rfl, hb⟩; have HB := Lib.hid (HB.out.trans (hb.mono HB.out.size)); clear hb)
          | (go_at_call 24; (with_reducible refine (HF2.out _).mono ?_); rintro e w1 ⟨rfl, hb⟩; have HB := Lib.hid (HB.out.trans (hb.mono HB.out.size)); have HR := Lib.hid ((hb.block w.heap.size (Array.getElem?_eq_some_iff.1 HR.out).1).trans HR.out); obtain ⟨x0, x1, x2, x3, x4, x5, x6, x7, x8, x9, x10⟩ := row11 HR.out; clear hb)
          | (go_at_call 24; (with_reducible refine (HF1.out _).mono ?_); rintro e w1 ⟨rfl, hb⟩; have HB := Lib.hid (HB.out.trans (hb.mono HB.out.size)); have HR := Lib.hid ((hb.block w.heap.size (Array.getElem?_eq_some_iff.1 HR.out).1).trans HR.out); obtain ⟨x0, x1, x2, x3, x4, x5, x6, x7, x8, x9, x10⟩ := row11 HR.out; clear hb))
        refine bodyPost_ret (results_tmp (fn := Tryz.f40) (t := 2) rfl _ _ _) rfl ?_
        exact ⟨rfl, HB.out⟩
    · have gn := decide_eq_false hn
      have en : (n == 0) = false := by simpa using hn
      rw [en, Bool.false_and]
      go_enter Tryz.func40, Tryz.ntmps40
      go_wp2_with fail
      refine bodyPost_ret (results_tmp (fn := Tryz.f40) (t := 2) rfl _ _ _) rfl ?_
      exact ⟨rfl, HB.out⟩
set_option maxHeartbeats 4000000 in
theorem rMayN (k i q n o : Int) (s t : ByteArray) (a b c m : Int) (w : World) (h0 : k ≠ 0) (h1 : k ≠ 1) (h2 : k ≠ 2) (h3 : k ≠ 3) (h4 : k ≠ 4) (h5 : k ≠ 5) : Calls Tryz.prog 40 #[oV k i q n o s t a b c m] w (RetBelow (.bool (mayO k i q n o s t a b c m)) w) := by
  obtain ⟨E, hE⟩ : ∃ E, zC o s t a b c m = E := ⟨_, rfl⟩
  have hq := qC o s t a b c m E hE
  have hbz : ∀ V : World, (Instr.build 32 #[]).run Tryz.prog V = .ok (.agg #[.int .i64 0, .string ⟨#[]⟩, .string ⟨#[]⟩, .int .i64 0, .int .i64 0, .int .i64 0, .int .i64 0]) V := fun V => run_build V 32 _ _ (by kernel_rfl)
  have HB := Lib.hid ((Below.refl w.heap.size w).alloc (Nat.le_refl _) (.cells #[.int .i64 k, .int .i64 i, .int .i64 q, .int .i64 n, .int .i64 o, .string s, .string t, .int .i64 a, .int .i64 b, .int .i64 c, .int .i64 m] 34))
  have HR := Lib.hid (heap_alloc_new w (.cells #[.int .i64 k, .int .i64 i, .int .i64 q, .int .i64 n, .int .i64 o, .string s, .string t, .int .i64 a, .int .i64 b, .int .i64 c, .int .i64 m] 34))
  obtain ⟨x0, x1, x2, x3, x4, x5, x6, x7, x8, x9, x10⟩ := row11 HR.out
  have HMy : Hid (mayO k i q n o s t a b c m = false) := Lib.hid (by unfold mayO; rw [if_neg h0, if_neg (fun h => h.elim h1 h3), if_neg h2, if_neg h4, if_neg h5])
  have g0 := decide_eq_false h0
  have g1 := decide_eq_false h1
  have g2 := decide_eq_false h2
  have g3 := decide_eq_false h3
  have g4 := decide_eq_false h4
  have g5 := decide_eq_false h5
  rw [HMy.out]
  clear HMy
  unfold oV
  clear hE HR
  by_cases hi : i = 0
  · have gi := decide_eq_true hi
    by_cases hq0 : q = 0
    · have gq := decide_eq_true hq0
      by_cases hn : n = 0
      · have gn := decide_eq_true hn
        subst hi hq0 hn
        cases E
        all_goals
          go_enter Tryz.func40, Tryz.ntmps40
          go_wp2_with fail
          refine bodyPost_ret (results_tmp (fn := Tryz.f40) (t := 2) rfl _ _ _) rfl ?_
          exact ⟨by first | rfl | (simp [ei]; done) | (simp [eq]; done) | (simp [en]; done) | (simp [eo]; done) | (simp; done) | simp_all, HB.out⟩
      · have gn := decide_eq_false hn
        have en : (n == 0) = false := by simpa using hn
        subst hi hq0
        cases E
        all_goals
          go_enter Tryz.func40, Tryz.ntmps40
          go_wp2_with fail
          refine bodyPost_ret (results_tmp (fn := Tryz.f40) (t := 2) rfl _ _ _) rfl ?_
          exact ⟨by first | rfl | (simp [ei]; done) | (simp [eq]; done) | (simp [en]; done) | (simp [eo]; done) | (simp; done) | simp_all, HB.out⟩
    · have gq := decide_eq_false hq0
      have eq : (q == 0) = false := by simpa using hq0
      subst hi
      go_enter Tryz.func40, Tryz.ntmps40
      go_wp2_with fail
      refine bodyPost_ret (results_tmp (fn := Tryz.f40) (t := 2) rfl _ _ _) rfl ?_
      exact ⟨by first | rfl | (simp [ei]; done) | (simp [eq]; done) | (simp [en]; done) | (simp [eo]; done) | (simp; done) | simp_all, HB.out⟩
  · have gi := decide_eq_false hi
    have ei : (i == 0) = false := by simpa using hi
    go_enter Tryz.func40, Tryz.ntmps40
    go_wp2_with fail
    refine bodyPost_ret (results_tmp (fn := Tryz.f40) (t := 2) rfl _ _ _) rfl ?_
    exact ⟨by first | rfl | (simp [ei]; done) | (simp [eq]; done) | (simp [en]; done) | (simp [eo]; done) | (simp; done) | simp_all, HB.out⟩
theorem rMayO_any (k i q n o : Int) (s t : ByteArray) (a b c m : Int) (w : World) (hs : s.size ≤ 281474976710656) (ht : t.size ≤ 281474976710656) : Calls Tryz.prog 40 #[oV k i q n o s t a b c m] w (RetBelow (.bool (mayO k i q n o s t a b c m)) w) := by
  by_cases h0 : k = 0
  · subst h0; exact rMay0 _ _ _ _ _ _ _ _ _ _ _
  by_cases h1 : k = 1
  · subst h1; exact rMay1 _ _ _ _ _ _ _ _ _ _ _
  by_cases h2 : k = 2
  · subst h2; exact rMay2 _ _ _ _ _ _ _ _ _ _ _ hs ht
  by_cases h3 : k = 3
  · subst h3; exact rMay3 _ _ _ _ _ _ _ _ _ _ _
  by_cases h4 : k = 4
  · subst h4; exact rMay4 _ _ _ _ _ _ _ _ _ _ _
  by_cases h5 : k = 5
  · subst h5; exact rMay5 _ _ _ _ _ _ _ _ _ _ _ hs ht
  exact rMayN _ _ _ _ _ _ _ _ _ _ _ _ h0 h1 h2 h3 h4 h5
end Go.Proofs.YtebacdegjmcnlaaGreat
