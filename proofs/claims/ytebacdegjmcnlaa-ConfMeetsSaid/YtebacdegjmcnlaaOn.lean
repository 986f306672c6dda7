import Derived.Test.YtebacdegjmcnlaaOm
namespace Go.Proofs.Ytebacdegjmcnlaa
set_option maxRecDepth 20000
open Go.RowKit Pl
set_option linter.unusedVariables false
/-- eleven cells of a block -/
theorem row11 {w : World} {b : Nat} {a0 a1 a2 a3 a4 a5 a6 a7 a8 a9 a10 : Value} {t : TypeId} (h : w.heap[b]? = some (.cells #[a0, a1, a2, a3, a4, a5, a6, a7, a8, a9, a10] t (0, 0))) :
    w.cell? ⟨b, 0, none⟩ = some a0 ∧ w.cell? ⟨b, 1, none⟩ = some a1 ∧ w.cell? ⟨b, 2, none⟩ = some a2 ∧ w.cell? ⟨b, 3, none⟩ = some a3 ∧ w.cell? ⟨b, 4, none⟩ = some a4 ∧ w.cell? ⟨b, 5, none⟩ = some a5 ∧ w.cell? ⟨b, 6, none⟩ = some a6 ∧ w.cell? ⟨b, 7, none⟩ = some a7 ∧ w.cell? ⟨b, 8, none⟩ = some a8 ∧ w.cell? ⟨b, 9, none⟩ = some a9 ∧ w.cell? ⟨b, 10, none⟩ = some a10 := by
  refine ⟨?_, ?_, ?_, ?_, ?_, ?_, ?_, ?_, ?_, ?_, ?_⟩
  all_goals (rw [Lib.cell_of_heap h]; rfl)
set_option maxHeartbeats 2000000 in
theorem may2 (i q n o : Int) (s t : ByteArray) (a b c m : Int) (w : World) (hs : s.size ≤ 281474976710656) (ht : t.size ≤ 281474976710656) : Calls Try.prog 25 #[oV 2 i q n o s t a b c m] w (RetBelow (.bool (mayO 2 i q n o s t a b c m)) w) := by
  obtain ⟨E, hEd⟩ : ∃ E, (n == 0) = E := ⟨_, rfl⟩
  have hE := qO 2 i q n o s t a b c m 2 i q 0 o s t a b c m E (by rw [← hEd]; simp [eqC_self])
  have hb : ∀ V : World, (Instr.build 43 #[(0, .int .i64 2)]).run Try.prog V = .ok (.agg #[.int .i64 2, .int .i64 0, .int .i64 0, .int .i64 0, .int .i64 0, .string ⟨#[]⟩, .string ⟨#[]⟩, .int .i64 0, .int .i64 0, .int .i64 0, .int .i64 0]) V := fun V => run_build V 43 _ _ (by kernel_rfl)
  have HM := Lib.hid fun X => may_any o s t a b c m X hs ht
  have HF1 := Lib.hid fun X => from_any 1 i 4611686018427387904 X
  have HF2 := Lib.hid fun X => from_any 1 q 4611686018427387904 X
  have HMy : Hid (mayO 2 i q n o s t a b c m = (E && ((decide (1 ≤ i) && decide (i ≤ 4611686018427387904)) && ((decide (1 ≤ q) && decide (q ≤ 4611686018427387904)) && mayC o s t a b c m)))) := Lib.hid (by rw [← hEd]; rfl)
  clear hEd hs ht
  rw [HMy.out]
  clear HMy
  unfold oV
  unfold MayPost at HM
  generalize mayC o s t a b c m = F at *
  generalize (decide (1 ≤ i) && decide (i ≤ 4611686018427387904)) = F1 at *
  generalize (decide (1 ≤ q) && decide (q ≤ 4611686018427387904)) = F2 at *
  go_enter Try.func25, Try.ntmps25
  go_wp2_with fail
  go_region
  have HB0 := Lib.hid ((below_2 w (.cells #[.int .i64 2, .int .i64 i, .int .i64 q, .int .i64 n, .int .i64 o, .string s, .string t, .int .i64 a, .int .i64 b, .int .i64 c, .int .i64 m] 43) (.cells #[.int .i64 2, .int .i64 i, .int .i64 q, .int .i64 0, .int .i64 o, .string s, .string t, .int .i64 a, .int .i64 b, .int .i64 c, .int .i64 m] 43)).drew)
  have HR0 : Hid (((w.alloc (.cells #[.int .i64 2, .int .i64 i, .int .i64 q, .int .i64 n, .int .i64 o, .string s, .string t, .int .i64 a, .int .i64 b, .int .i64 c, .int .i64 m] 43)).alloc (.cells #[.int .i64 2, .int .i64 i, .int .i64 q, .int .i64 0, .int .i64 o, .string s, .string t, .int .i64 a, .int .i64 b, .int .i64 c, .int .i64 m] 43)).drew.heap[w.heap.size]? = some (.cells #[.int .i64 2, .int .i64 i, .int .i64 q, .int .i64 n, .int .i64 o, .string s, .string t, .int .i64 a, .int .i64 b, .int .i64 c, .int .i64 m] 43 (0, 0))) := Lib.hid ((Below.heap_alloc _ _ _ (by simp)).trans (heap_alloc_new w _))
  have HR1 : Hid (((w.alloc (.cells #[.int .i64 2, .int .i64 i, .int .i64 q, .int .i64 n, .int .i64 o, .string s, .string t, .int .i64 a, .int .i64 b, .int .i64 c, .int .i64 m] 43)).alloc (.cells #[.int .i64 2, .int .i64 i, .int .i64 q, .int .i64 0, .int .i64 o, .string s, .string t, .int .i64 a, .int .i64 b, .int .i64 c, .int .i64 m] 43)).drew.heap[w.heap.size + 1]? = some (.cells #[.int .i64 2, .int .i64 i, .int .i64 q, .int .i64 0, .int .i64 o, .string s, .string t, .int .i64 a, .int .i64 b, .int .i64 c, .int .i64 m] 43 (0, 0))) := Lib.hid (by
    have := heap_alloc_new (w.alloc (.cells #[.int .i64 2, .int .i64 i, .int .i64 q, .int .i64 n, .int .i64 o, .string s, .string t, .int .i64 a, .int .i64 b, .int .i64 c, .int .i64 m] 43)) (.cells #[.int .i64 2, .int .i64 i, .int .i64 q, .int .i64 0, .int .i64 o, .string s, .string t, .int .i64 a, .int .i64 b, .int .i64 c, .int .i64 m] 43)
    rwa [show (w.alloc (.cells #[.int .i64 2, .int .i64 i, .int .i64 q, .int .i64 n, .int .i64 o, .string s, .string t, .int .i64 a, .int .i64 b, .int .i64 c, .int .i64 m] 43)).heap.size = w.heap.size + 1 by simp] at this)
  generalize World.drew _ = W at *
  obtain ⟨x0, x1, x2, x3, x4, x5, x6, x7, x8, x9, x10⟩ := row11 HR0.out
  obtain ⟨y0, y1, y2, y3, y4, y5, y6, y7, y8, y9, y10⟩ := row11 HR1.out
  have HL := Lib.hid (Array.getElem?_eq_some_iff.1 HR0.out).1
  cases E with
  | false =>
    rw [Bool.false_and]
    go_wp2_with fail
    refine bodyPost_ret (results_tmp (fn := Try.f25) (t := 2) rfl _ _ _) rfl ?_
    exact ⟨rfl, HB0.out⟩
  | true =>
    rw [Bool.true_and]
    cases F1 with
    | false =>
      rw [Bool.false_and]
      go_wp2_with (go_at_call 33; (with_reducible refine (HF1.out _).mono ?_); rintro e w1 ⟨rfl, hb1⟩)
      refine bodyPost_ret (results_tmp (fn := Try.f25) (t := 2) rfl _ _ _) rfl ?_
      exact ⟨rfl, HB0.out.trans (hb1.mono HB0.out.size)⟩
    | true =>
      rw [Bool.true_and]
      cases F2 with
      | false =>
        rw [Bool.false_and]
        go_wp2_with (first
          | (go_at_call 33; (with_reducible refine (HF2.out _).mono ?_); rintro e w2 ⟨rfl, hb2⟩)
          | (go_at_call 33; (with_reducible refine (HF1.out _).mono ?_); rintro e w1 ⟨rfl, hb1⟩; obtain ⟨z0, z1, z2, z3, z4, z5, z6, z7, z8, z9, z10⟩ := row11 ((hb1.block _ HL.out).trans HR0.out)))
        refine bodyPost_ret (results_tmp (fn := Try.f25) (t := 2) rfl _ _ _) rfl ?_
        exact ⟨rfl, HB0.out.trans ((hb1.trans (hb2.mono hb1.size)).mono HB0.out.size)⟩
      | true =>
        rw [Bool.true_and]
        go_wp2_with (first
          | (go_at_call 34; (with_reducible refine (HM.out _).mono ?_); rintro e w3 ⟨rfl, hb3⟩)
          | (go_at_call 33; (with_reducible refine (HF2.out _).mono ?_); rintro e w2 ⟨rfl, hb2⟩; obtain ⟨v0, v1, v2, v3, v4, v5, v6, v7, v8, v9, v10⟩ := row11 ((hb2.block _ (Nat.lt_of_lt_of_le HL.out hb1.size)).trans ((hb1.block _ HL.out).trans HR0.out)))
          | (go_at_call 33; (with_reducible refine (HF1.out _).mono ?_); rintro e w1 ⟨rfl, hb1⟩; obtain ⟨z0, z1, z2, z3, z4, z5, z6, z7, z8, z9, z10⟩ := row11 ((hb1.block _ HL.out).trans HR0.out)))
        refine bodyPost_ret (results_tmp (fn := Try.f25) (t := 2) rfl _ _ _) rfl ?_
        exact ⟨rfl, HB0.out.trans (((hb1.trans (hb2.mono hb1.size)).trans (hb3.mono (Nat.le_trans hb1.size hb2.size))).mono HB0.out.size)⟩
theorem mayO_any (k i q n o : Int) (s t : ByteArray) (a b c m : Int) (w : World) (hs : s.size ≤ 281474976710656) (ht : t.size ≤ 281474976710656) : Calls Try.prog 25 #[oV k i q n o s t a b c m] w (RetBelow (.bool (mayO k i q n o s t a b c m)) w) := by
  by_cases h0 : k = 0
  · subst h0; exact may0 _ _ _ _ _ _ _ _ _ _ _
  by_cases h1 : k = 1
  · subst h1; exact may1 _ _ _ _ _ _ _ _ _ _ _
  by_cases h2 : k = 2
  · subst h2; exact may2 _ _ _ _ _ _ _ _ _ _ _ hs ht
  by_cases h3 : k = 3
  · subst h3; exact may3 _ _ _ _ _ _ _ _ _ _ _
  by_cases h4 : k = 4
  · subst h4; exact may4 _ _ _ _ _ _ _ _ _ _ _
  by_cases h5 : k = 5
  · subst h5; exact may5 _ _ _ _ _ _ _ _ _ _ _ hs ht
  exact mayN _ _ _ _ _ _ _ _ _ _ _ _ h0 h1 h2 h3 h4 h5
end Go.Proofs.Ytebacdegjmcnlaa
