/-
  Orders: decoded. Condition: the data has at most 2^48 bytes.
-/
import Derived.Test.YtebacdegjmcnlaaOl
namespace Go.Proofs.Ytebacdegjmcnlaa
set_option maxRecDepth 20000
open Go.RowKit Pl
set_option linter.unusedVariables false
set_option maxHeartbeats 2000000 in
theorem dec_no (D E : ByteArray) (k i q n : Int) (o : Int) (s t : ByteArray) (a b c m : Int) (er : Int) (w : World) (hno : er ≠ 0 ∨ E ≠ D)
    (HRD : Hid (∀ X, Calls Try.prog 38 #[.string D] X (RetBelow (.agg #[.int .i64 k, .int .i64 i, .int .i64 q, .int .i64 n, .int .i64 o, .string s, .string t, .int .i64 a, .int .i64 b, .int .i64 c, .int .i64 m]) X)))
    (HEN : Hid (∀ X, Calls Try.prog 20 #[.agg #[.int .i64 k, .int .i64 i, .int .i64 q, .int .i64 n, .int .i64 o, .string s, .string t, .int .i64 a, .int .i64 b, .int .i64 c, .int .i64 m]] X (RetBelow (.tuple #[.string E, .int .i64 er]) X))) :
    Calls Try.prog 30 #[.string D] w (RetBelow (.tuple #[.agg #[.int .i64 0, .int .i64 0, .int .i64 0, .int .i64 0, .int .i64 0, .string ⟨#[]⟩, .string ⟨#[]⟩, .int .i64 0, .int .i64 0, .int .i64 0, .int .i64 0], .int .i64 4]) w) := by
  have hbd : ∀ W : World, (Instr.build 43 #[]).run Try.prog W = .ok (.agg #[.int .i64 0, .int .i64 0, .int .i64 0, .int .i64 0, .int .i64 0, .string ⟨#[]⟩, .string ⟨#[]⟩, .int .i64 0, .int .i64 0, .int .i64 0, .int .i64 0]) W := fun W => run_build W 43 _ _ (by kernel_rfl)
  have HB0 := Lib.hid ((Below.refl w.heap.size w).alloc (Nat.le_refl _) (.cells #[.int .i64 0, .int .i64 0, .int .i64 0, .int .i64 0, .int .i64 0, .string ⟨#[]⟩, .string ⟨#[]⟩, .int .i64 0, .int .i64 0, .int .i64 0, .int .i64 0] 43))
  have HR0 := Lib.hid (heap_alloc_new w (.cells #[.int .i64 0, .int .i64 0, .int .i64 0, .int .i64 0, .int .i64 0, .string ⟨#[]⟩, .string ⟨#[]⟩, .int .i64 0, .int .i64 0, .int .i64 0, .int .i64 0] 43))
  by_cases he : er = 0
  · have g0 : decide (er = 0) = true := decide_eq_true he
    have hne : E ≠ D := hno.elim (fun h => absurd he h) id
    have g1 : decide (E.toList = D.toList) = false := decide_eq_false fun h => hne ((toList_iff E D).1 h)
    have g2 : (E.toList == D.toList) = false := by rw [beq_eq_false_iff_ne]; exact fun h => hne ((toList_iff E D).1 h)
    subst he
    clear hno
    go_enter Try.func30, Try.ntmps30
    go_wp2_with (first
      | (go_at_call 38; (with_reducible refine (HRD.out _).mono ?_); rintro e w1 ⟨rfl, hb1⟩
         have HB1 := Lib.hid (HB0.out.trans (hb1.mono HB0.out.size))
         have HR1 := Lib.hid ((hb1.block w.heap.size (by simp)).trans HR0.out)
         have HO1 := Lib.hid (heap_alloc_new w1 (.cells #[.int .i64 k, .int .i64 i, .int .i64 q, .int .i64 n, .int .i64 o, .string s, .string t, .int .i64 a, .int .i64 b, .int .i64 c, .int .i64 m] 43))
         have HA1 := Lib.hid ((Below.refl w1.heap.size w1).alloc (Nat.le_refl _) (.cells #[.int .i64 k, .int .i64 i, .int .i64 q, .int .i64 n, .int .i64 o, .string s, .string t, .int .i64 a, .int .i64 b, .int .i64 c, .int .i64 m] 43))
         have HL1 := Lib.hid (Array.getElem?_eq_some_iff.1 HR1.out).1
         obtain ⟨x0, x1, x2, x3, x4, x5, x6, x7, x8, x9, x10, _⟩ := row11f HO1.out
         clear hb1)
      | (go_at_call 20; (with_reducible refine (HEN.out _).mono ?_); rintro e w2 ⟨rfl, hb2⟩
         have HB2 := Lib.hid (HB1.out.trans ((HA1.out.trans (hb2.mono HA1.out.size)).mono HB1.out.size))
         have HR2 := Lib.hid ((hb2.block w.heap.size (by have := HL1.out; simp; omega)).trans ((HA1.out.block w.heap.size HL1.out).trans HR1.out))
         have HO2 := Lib.hid ((hb2.block w1.heap.size (by simp)).trans HO1.out)
         obtain ⟨y0, y1, y2, y3, y4, y5, y6, y7, y8, y9, y10, _⟩ := row11f HO2.out
         obtain ⟨q0, q1, q2, q3, q4, q5, q6, q7, q8, q9, q10, f0, f1, f2, f3, f4, f5, f6, f7, f8, f9, f10⟩ := row11f HR2.out
         clear hb2))
    all_goals
      have R9 := wr11_row (a0 := .int .i64 0) (a1 := .int .i64 0) (a2 := .int .i64 0) (a3 := .int .i64 0) (a4 := .int .i64 0) (a5 := .string ⟨#[]⟩) (a6 := .string ⟨#[]⟩) (a7 := .int .i64 0) (a8 := .int .i64 0) (a9 := .int .i64 0) (a10 := .int .i64 0) HR2.out
      have B9 := wr11_below (a0 := .int .i64 0) (a1 := .int .i64 0) (a2 := .int .i64 0) (a3 := .int .i64 0) (a4 := .int .i64 0) (a5 := .string ⟨#[]⟩) (a6 := .string ⟨#[]⟩) (a7 := .int .i64 0) (a8 := .int .i64 0) (a9 := .int .i64 0) (a10 := .int .i64 0) HB2.out (Nat.le_refl _)
      unfold wr11 at R9 B9
      obtain ⟨m0, m1, m2, m3, m4, m5, m6, m7, m8, m9, m10⟩ := row11 R9
      refine bodyPost_ret (v := .tuple #[.agg #[.int .i64 0, .int .i64 0, .int .i64 0, .int .i64 0, .int .i64 0, .string ⟨#[]⟩, .string ⟨#[]⟩, .int .i64 0, .int .i64 0, .int .i64 0, .int .i64 0], .int .i64 4]) (by simp [results, Try.results30, go_sem, m0, m1, m2, m3, m4, m5, m6, m7, m8, m9, m10]) rfl ⟨rfl, B9⟩
  · have g0 : decide (er = 0) = false := decide_eq_false he
    clear hno
    go_enter Try.func30, Try.ntmps30
    go_wp2_with (first
      | (go_at_call 38; (with_reducible refine (HRD.out _).mono ?_); rintro e w1 ⟨rfl, hb1⟩
         have HB1 := Lib.hid (HB0.out.trans (hb1.mono HB0.out.size))
         have HR1 := Lib.hid ((hb1.block w.heap.size (by simp)).trans HR0.out)
         have HO1 := Lib.hid (heap_alloc_new w1 (.cells #[.int .i64 k, .int .i64 i, .int .i64 q, .int .i64 n, .int .i64 o, .string s, .string t, .int .i64 a, .int .i64 b, .int .i64 c, .int .i64 m] 43))
         have HA1 := Lib.hid ((Below.refl w1.heap.size w1).alloc (Nat.le_refl _) (.cells #[.int .i64 k, .int .i64 i, .int .i64 q, .int .i64 n, .int .i64 o, .string s, .string t, .int .i64 a, .int .i64 b, .int .i64 c, .int .i64 m] 43))
         have HL1 := Lib.hid (Array.getElem?_eq_some_iff.1 HR1.out).1
         obtain ⟨x0, x1, x2, x3, x4, x5, x6, x7, x8, x9, x10, _⟩ := row11f HO1.out
         clear hb1)
      | (go_at_call 20; (with_reducible refine (HEN.out _).mono ?_); rintro e w2 ⟨rfl, hb2⟩
         have HB2 := Lib.hid (HB1.out.trans ((HA1.out.trans (hb2.mono HA1.out.size)).mono HB1.out.size))
         have HR2 := Lib.hid ((hb2.block w.heap.size (by have := HL1.out; simp; omega)).trans ((HA1.out.block w.heap.size HL1.out).trans HR1.out))
         have HO2 := Lib.hid ((hb2.block w1.heap.size (by simp)).trans HO1.out)
         obtain ⟨y0, y1, y2, y3, y4, y5, y6, y7, y8, y9, y10, _⟩ := row11f HO2.out
         obtain ⟨q0, q1, q2, q3, q4, q5, q6, q7, q8, q9, q10, f0, f1, f2, f3, f4, f5, f6, f7, f8, f9, f10⟩ := row11f HR2.out
         clear hb2))
    all_goals
      have R9 := wr11_row (a0 := .int .i64 0) (a1 := .int .i64 0) (a2 := .int .i64 0) (a3 := .int .i64 0) (a4 := .int .i64 0) (a5 := .string ⟨#[]⟩) (a6 := .string ⟨#[]⟩) (a7 := .int .i64 0) (a8 := .int .i64 0) (a9 := .int .i64 0) (a10 := .int .i64 0) HR2.out
      have B9 := wr11_below (a0 := .int .i64 0) (a1 := .int .i64 0) (a2 := .int .i64 0) (a3 := .int .i64 0) (a4 := .int .i64 0) (a5 := .string ⟨#[]⟩) (a6 := .string ⟨#[]⟩) (a7 := .int .i64 0) (a8 := .int .i64 0) (a9 := .int .i64 0) (a10 := .int .i64 0) HB2.out (Nat.le_refl _)
      unfold wr11 at R9 B9
      obtain ⟨m0, m1, m2, m3, m4, m5, m6, m7, m8, m9, m10⟩ := row11 R9
      refine bodyPost_ret (v := .tuple #[.agg #[.int .i64 0, .int .i64 0, .int .i64 0, .int .i64 0, .int .i64 0, .string ⟨#[]⟩, .string ⟨#[]⟩, .int .i64 0, .int .i64 0, .int .i64 0, .int .i64 0], .int .i64 4]) (by simp [results, Try.results30, go_sem, m0, m1, m2, m3, m4, m5, m6, m7, m8, m9, m10]) rfl ⟨rfl, B9⟩
set_option maxHeartbeats 2000000 in
theorem dec_yes (D : ByteArray) (k i q n : Int) (o : Int) (s t : ByteArray) (a b c m : Int) (w : World)
    (HRD : Hid (∀ X, Calls Try.prog 38 #[.string D] X (RetBelow (.agg #[.int .i64 k, .int .i64 i, .int .i64 q, .int .i64 n, .int .i64 o, .string s, .string t, .int .i64 a, .int .i64 b, .int .i64 c, .int .i64 m]) X)))
    (HEN : Hid (∀ X, Calls Try.prog 20 #[.agg #[.int .i64 k, .int .i64 i, .int .i64 q, .int .i64 n, .int .i64 o, .string s, .string t, .int .i64 a, .int .i64 b, .int .i64 c, .int .i64 m]] X (RetBelow (.tuple #[.string D, .int .i64 0]) X))) :
    Calls Try.prog 30 #[.string D] w (RetBelow (.tuple #[.agg #[.int .i64 k, .int .i64 i, .int .i64 q, .int .i64 n, .int .i64 o, .string s, .string t, .int .i64 a, .int .i64 b, .int .i64 c, .int .i64 m], .int .i64 0]) w) := by
  have hbd : ∀ W : World, (Instr.build 43 #[]).run Try.prog W = .ok (.agg #[.int .i64 0, .int .i64 0, .int .i64 0, .int .i64 0, .int .i64 0, .string ⟨#[]⟩, .string ⟨#[]⟩, .int .i64 0, .int .i64 0, .int .i64 0, .int .i64 0]) W := fun W => run_build W 43 _ _ (by kernel_rfl)
  have HB0 := Lib.hid ((Below.refl w.heap.size w).alloc (Nat.le_refl _) (.cells #[.int .i64 0, .int .i64 0, .int .i64 0, .int .i64 0, .int .i64 0, .string ⟨#[]⟩, .string ⟨#[]⟩, .int .i64 0, .int .i64 0, .int .i64 0, .int .i64 0] 43))
  have HR0 := Lib.hid (heap_alloc_new w (.cells #[.int .i64 0, .int .i64 0, .int .i64 0, .int .i64 0, .int .i64 0, .string ⟨#[]⟩, .string ⟨#[]⟩, .int .i64 0, .int .i64 0, .int .i64 0, .int .i64 0] 43))
  have g1 : decide (D.toList = D.toList) = true := decide_eq_true rfl
  have g2 : (D.toList == D.toList) = true := by simp
  go_enter Try.func30, Try.ntmps30
  go_wp2_with (first
    | (go_at_call 38; (with_reducible refine (HRD.out _).mono ?_); rintro e w1 ⟨rfl, hb1⟩
       have HB1 := Lib.hid (HB0.out.trans (hb1.mono HB0.out.size))
       have HR1 := Lib.hid ((hb1.block w.heap.size (by simp)).trans HR0.out)
       have HO1 := Lib.hid (heap_alloc_new w1 (.cells #[.int .i64 k, .int .i64 i, .int .i64 q, .int .i64 n, .int .i64 o, .string s, .string t, .int .i64 a, .int .i64 b, .int .i64 c, .int .i64 m] 43))
       have HA1 := Lib.hid ((Below.refl w1.heap.size w1).alloc (Nat.le_refl _) (.cells #[.int .i64 k, .int .i64 i, .int .i64 q, .int .i64 n, .int .i64 o, .string s, .string t, .int .i64 a, .int .i64 b, .int .i64 c, .int .i64 m] 43))
       have HL1 := Lib.hid (Array.getElem?_eq_some_iff.1 HR1.out).1
       obtain ⟨x0, x1, x2, x3, x4, x5, x6, x7, x8, x9, x10, _⟩ := row11f HO1.out
       clear hb1)
    | (go_at_call 20; (with_reducible refine (HEN.out _).mono ?_); rintro e w2 ⟨rfl, hb2⟩
       have HB2 := Lib.hid (HB1.out.trans ((HA1.out.trans (hb2.mono HA1.out.size)).mono HB1.out.size))
       have HR2 := Lib.hid ((hb2.block w.heap.size (by have := HL1.out; simp; omega)).trans ((HA1.out.block w.heap.size HL1.out).trans HR1.out))
       have HO2 := Lib.hid ((hb2.block w1.heap.size (by simp)).trans HO1.out)
       obtain ⟨y0, y1, y2, y3, y4, y5, y6, y7, y8, y9, y10, _⟩ := row11f HO2.out
       obtain ⟨q0, q1, q2, q3, q4, q5, q6, q7, q8, q9, q10, f0, f1, f2, f3, f4, f5, f6, f7, f8, f9, f10⟩ := row11f HR2.out
       clear hb2))
  all_goals
    have R9 := wr11_row (a0 := .int .i64 k) (a1 := .int .i64 i) (a2 := .int .i64 q) (a3 := .int .i64 n) (a4 := .int .i64 o) (a5 := .string s) (a6 := .string t) (a7 := .int .i64 a) (a8 := .int .i64 b) (a9 := .int .i64 c) (a10 := .int .i64 m) HR2.out
    have B9 := wr11_below (a0 := .int .i64 k) (a1 := .int .i64 i) (a2 := .int .i64 q) (a3 := .int .i64 n) (a4 := .int .i64 o) (a5 := .string s) (a6 := .string t) (a7 := .int .i64 a) (a8 := .int .i64 b) (a9 := .int .i64 c) (a10 := .int .i64 m) HB2.out (Nat.le_refl _)
    unfold wr11 at R9 B9
    obtain ⟨m0, m1, m2, m3, m4, m5, m6, m7, m8, m9, m10⟩ := row11 R9
    refine bodyPost_ret (v := .tuple #[.agg #[.int .i64 k, .int .i64 i, .int .i64 q, .int .i64 n, .int .i64 o, .string s, .string t, .int .i64 a, .int .i64 b, .int .i64 c, .int .i64 m], .int .i64 0]) (by simp [results, Try.results30, go_sem, m0, m1, m2, m3, m4, m5, m6, m7, m8, m9, m10]) rfl ⟨rfl, B9⟩
end Go.Proofs.Ytebacdegjmcnlaa
