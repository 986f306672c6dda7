import Derived.Test.YtphclpjekpdifaaGreatYQ
import Derived.Deep.RegionWith
import Derived.Test.YtphclpjekpdifaaGreatYK
import Derived.Deep.QuietTactic
import Derived.BigQuiet
namespace Go.Proofs.YtphclpjekpdifaaGreat
set_option maxRecDepth 20000
open Go.RowKit
open PS (Tx putM dropM setM findM Nod Ten Jb kOf St)
open Go.Proofs.YtphclpjekpdifaaGreat.Nm (str)
open Go.Proofs.YtphclpjekpdifaaGreat.Vc (RetBelow fitB I64)
set_option linter.unusedVariables false
set_option maxHeartbeats 4000000 in
theorem drain_core (b : Nat) (co : Int) (cS cT : ByteArray) (p q r cn : Int) (F : Bool) (S_s : ByteArray) (v_a : Int) (v_b : Int) (v_c : Int) (v_x : Int) (v_y : Int) (v_z : Int) (v_n : Int) (v_d : Bool) (E : Int) (PP : World → Prop) (w : World)
    (HG : Hid (∀ X, Below w.heap.size w X → Calls Tryz.prog 75 #[.pointer (some ⟨b, 0, none⟩), .string cS] X (RetBelow (.tuple #[.agg #[.string S_s, .int .i64 v_a, .int .i64 v_b, .int .i64 v_c, .int .i64 v_x, .int .i64 v_y, .int .i64 v_z, .int .i64 v_n, .bool v_d], .bool F]) X)))
    (h0 : Hid (F = false → E = 10 ∧ ∀ X, Below w.heap.size w X → PP X))
    (h1 : Hid (F = true → E = 0 ∧ ∀ X, Below w.heap.size w X → Calls Tryz.prog 81 #[.pointer (some ⟨b, 0, none⟩), .string S_s, .agg #[.string S_s, .int .i64 v_a, .int .i64 v_b, .int .i64 v_c, .int .i64 v_x, .int .i64 v_y, .int .i64 v_z, .int .i64 v_n, .bool (cn == 1)]] X fun e w' => e = .returned (.tuple #[]) ∧ PP w')) :
    Calls Tryz.prog 38 #[.pointer (some ⟨b, 0, none⟩), .agg #[.int .i64 co, .string cS, .string cT, .int .i64 p, .int .i64 q, .int .i64 r, .int .i64 cn]] w fun e w' => e = .returned (.int .i64 E) ∧ PP w' := by
  have HB0 := Lib.hid ((Below.refl w.heap.size w).alloc (Nat.le_refl _) (.cells #[.int .i64 co, .string cS, .string cT, .int .i64 p, .int .i64 q, .int .i64 r, .int .i64 cn] 33))
  have HBX := Lib.hid (show ∀ X, Below (w.alloc (.cells #[.int .i64 co, .string cS, .string cT, .int .i64 p, .int .i64 q, .int .i64 r, .int .i64 cn] 33)).heap.size (w.alloc (.cells #[.int .i64 co, .string cS, .string cT, .int .i64 p, .int .i64 q, .int .i64 r, .int .i64 cn] 33)) X → X.heap[w.heap.size]? = some (.cells #[.int .i64 co, .string cS, .string cT, .int .i64 p, .int .i64 q, .int .i64 r, .int .i64 cn] 33 (0, 0)) from fun X h => (h.block _ (by simp)).trans (heap_alloc_new w _))
  go_enter Tryz.func38, Tryz.ntmps38
  go_wp2_with fail
  rename_i KC hK
  have HKK : ∀ (g : Nat) (V : World) (z2 z7 z8 z9 z10 z11 z12 z13 z14 z15 : Value), Hid (V.heap[g]? = some (.cells #[.string S_s, .int .i64 v_a, .int .i64 v_b, .int .i64 v_c, .int .i64 v_x, .int .i64 v_y, .int .i64 v_z, .int .i64 v_n, .bool v_d] 99 (0, 0))) → Hid (V.heap[w.heap.size]? = some (.cells #[.int .i64 co, .string cS, .string cT, .int .i64 p, .int .i64 q, .int .i64 r, .int .i64 cn] 33 (0, 0))) → Hid (w.heap.size < g) → Hid (Below w.heap.size w V) →
      KC { tmps := #[.pointer (some ⟨b, 0, none⟩), .agg #[.int .i64 co, .string cS, .string cT, .int .i64 p, .int .i64 q, .int .i64 r, .int .i64 cn], z2, .pointer (some ⟨w.heap.size, 0, none⟩), .int .i64 0, .pointer (some ⟨g, 0, none⟩), .bool F, z7, z8, z9, z10, z11, z12, z13, z14, z15, undef, undef, undef, undef, undef, undef, undef, undef, undef, undef, undef, undef, undef], defers := [] } V := by
    intro g V z2 z7 z8 z9 z10 z11 z12 z13 z14 z15 HRW HCX HNE HBV
    refine hK _ _ ?_
    clear hK HBX HB0
    cases F with
    | true =>
      obtain ⟨rfl, hPP⟩ := h1.out rfl
      have HPP := Lib.hid hPP
      obtain ⟨q0, q1, q2, q3, q4, q5, q6, q7, q8, q9, q10, q11, q12, q13, q14, q15, q16, q17⟩ := rowc9 HRW.out
      obtain ⟨_, _, _, _, _, _, k6, _⟩ := rowc7 HCX.out
      clear hPP
      have HR2 : Hid ((V.setCell ⟨g, 8, none⟩ (.bool (cn == 1))).heap[g]? = some (.cells #[.string S_s, .int .i64 v_a, .int .i64 v_b, .int .i64 v_c, .int .i64 v_x, .int .i64 v_y, .int .i64 v_z, .int .i64 v_n, .bool (cn == 1)] 99 (0, 0))) := Lib.hid (by have := Wi.heap_set V g 8 (.bool (cn == 1)) _ _ HRW.out; simpa only [List.setIfInBounds_toArray, List.set_cons_zero, List.set_cons_succ] using this)
      have HB2 : Hid (Below w.heap.size w (V.setCell ⟨g, 8, none⟩ (.bool (cn == 1)))) := Lib.hid (HBV.out.setCell (p := ⟨g, 8, none⟩) (Nat.le_of_lt HNE.out) _)
      go_wp2_with fail
      generalize V.setCell ⟨g, 8, none⟩ (.bool (cn == 1)) = W2 at *
      clear q0 q1 q2 q3 q4 q5 q6 q7 q8 q9 q10 q11 q12 q13 q14 q15 q16 q17 k6
      obtain ⟨q0, q1, q2, q3, q4, q5, q6, q7, q8, q9, q10, q11, q12, q13, q14, q15, q16, q17⟩ := rowc9 HR2.out
      go_region_with (first | (go_at_call 81; (with_reducible refine (HPP.out _ HB2.out.drew).mono ?_); rintro e w3 ⟨rfl, hP⟩; have HP3 := Lib.hid hP; clear hP))
      all_goals go_wp2_with fail
      all_goals go_ret
      all_goals exact ⟨rfl, HP3.out⟩
    | false =>
      obtain ⟨rfl, hPP⟩ := h0.out rfl
      have HPP := Lib.hid hPP
      clear hPP
      go_wp2_with fail
      go_ret
      exact ⟨rfl, HPP.out _ HBV.out⟩
  clear hK
  have HZ := Lib.hid (show ((w.alloc (.cells #[.int .i64 co, .string cS, .string cT, .int .i64 p, .int .i64 q, .int .i64 r, .int .i64 cn] 33)).drew.alloc (.cells #[.string ⟨#[]⟩, .int .i64 0, .int .i64 0, .int .i64 0, .int .i64 0, .int .i64 0, .int .i64 0, .int .i64 0, .bool false] 99)).heap[w.heap.size + 1]? = some (.cells #[.string ⟨#[]⟩, .int .i64 0, .int .i64 0, .int .i64 0, .int .i64 0, .int .i64 0, .int .i64 0, .int .i64 0, .bool false] 99 (0, 0)) from by have := heap_alloc_new (w.alloc (.cells #[.int .i64 co, .string cS, .string cT, .int .i64 p, .int .i64 q, .int .i64 r, .int .i64 cn] 33)).drew (.cells #[.string ⟨#[]⟩, .int .i64 0, .int .i64 0, .int .i64 0, .int .i64 0, .int .i64 0, .int .i64 0, .int .i64 0, .bool false] 99); rwa [show (w.alloc (.cells #[.int .i64 co, .string cS, .string cT, .int .i64 p, .int .i64 q, .int .i64 r, .int .i64 cn] 33)).drew.heap.size = w.heap.size + 1 from by simp] at this)
  have HBA := Lib.hid (HB0.out.alloc (by simp) (.cells #[.string ⟨#[]⟩, .int .i64 0, .int .i64 0, .int .i64 0, .int .i64 0, .int .i64 0, .int .i64 0, .int .i64 0, .bool false] 99)).drew
  go_region_with (first
    | (go_at_call 75; (with_reducible refine (HG.out _ HB0.out.drew).mono ?_); rintro e w1 ⟨rfl, hb⟩; have hb2 := Lib.hid (HB0.out.drew.trans (hb.mono (by simp))); have FB := Lib.hid (HBX.out w1 ((Below.refl _ _).drew.trans hb)))
    | (go_at_call 75; (with_reducible refine (HG.out _ HBA.out).mono ?_); rintro e w1 ⟨rfl, hb⟩; have FR := Lib.hid ((hb.block (w.heap.size + 1) (by simp)).trans HZ.out); obtain ⟨q0, q1, q2, q3, q4, q5, q6, q7, q8, q9, q10, q11, q12, q13, q14, q15, q16, q17⟩ := rowc9 FR.out; have hb2 := Lib.hid (HBA.out.trans (hb.mono (by simp; omega))); have FB := Lib.hid (HBX.out w1 ((((Below.refl _ _).alloc (Nat.le_refl _) (.cells #[.string ⟨#[]⟩, .int .i64 0, .int .i64 0, .int .i64 0, .int .i64 0, .int .i64 0, .int .i64 0, .int .i64 0, .bool false] 99)).drew).trans (hb.mono (by simp))))))
  all_goals go_simp
  all_goals first
    | exact HKK w1.heap.size _ _ _ _ _ _ _ _ _ _ _ (Lib.hid (heap_alloc_new w1 _)) (Lib.hid ((Below.heap_alloc w1 _ _ (by have := hb2.out.size; have := (Array.getElem?_eq_some_iff.1 FB.out).1; omega)).trans FB.out)) (Lib.hid (by have := hb.size; simp at this; omega)) (Lib.hid (hb2.out.alloc hb2.out.size _))
    | exact HKK (w.heap.size + 1) _ _ _ _ _ _ _ _ _ _ _ (Lib.hid (wr9_row FR.out)) (Lib.hid ((wr9_far (by omega)).trans FB.out)) (Lib.hid (by omega)) (Lib.hid (wr9_below hb2.out (by omega)))
set_option maxHeartbeats 4000000 in
theorem drop_core (b : Nat) (co : Int) (cS cT : ByteArray) (p q r cn : Int) (F : Bool) (S_s : ByteArray) (v_a : Int) (v_b : Int) (v_c : Int) (v_x : Int) (v_y : Int) (v_z : Int) (v_n : Int) (v_d : Bool) (E : Int) (PP : World → Prop) (w : World)
    (HG : Hid (∀ X, Below w.heap.size w X → Calls Tryz.prog 75 #[.pointer (some ⟨b, 0, none⟩), .string cS] X (RetBelow (.tuple #[.agg #[.string S_s, .int .i64 v_a, .int .i64 v_b, .int .i64 v_c, .int .i64 v_x, .int .i64 v_y, .int .i64 v_z, .int .i64 v_n, .bool v_d], .bool F]) X)))
    (h0 : Hid (F = false → E = 10 ∧ ∀ X, Below w.heap.size w X → PP X))
    (h1 : Hid (F = true → 0 < v_n → E = 14 ∧ ∀ X, Below w.heap.size w X → PP X))
    (h2 : Hid (F = true → ¬ 0 < v_n → E = 0 ∧ ∀ X, Below w.heap.size w X → Calls Tryz.prog 82 #[.pointer (some ⟨b, 0, none⟩), .string S_s] X fun e w' => e = .returned (.tuple #[]) ∧ PP w')) :
    Calls Tryz.prog 39 #[.pointer (some ⟨b, 0, none⟩), .agg #[.int .i64 co, .string cS, .string cT, .int .i64 p, .int .i64 q, .int .i64 r, .int .i64 cn]] w fun e w' => e = .returned (.int .i64 E) ∧ PP w' := by
  have HB0 := Lib.hid ((Below.refl w.heap.size w).alloc (Nat.le_refl _) (.cells #[.int .i64 co, .string cS, .string cT, .int .i64 p, .int .i64 q, .int .i64 r, .int .i64 cn] 33))
  have HBX := Lib.hid (show ∀ X, Below (w.alloc (.cells #[.int .i64 co, .string cS, .string cT, .int .i64 p, .int .i64 q, .int .i64 r, .int .i64 cn] 33)).heap.size (w.alloc (.cells #[.int .i64 co, .string cS, .string cT, .int .i64 p, .int .i64 q, .int .i64 r, .int .i64 cn] 33)) X → X.heap[w.heap.size]? = some (.cells #[.int .i64 co, .string cS, .string cT, .int .i64 p, .int .i64 q, .int .i64 r, .int .i64 cn] 33 (0, 0)) from fun X h => (h.block _ (by simp)).trans (heap_alloc_new w _))
  go_enter Tryz.func39, Tryz.ntmps39
  go_wp2_with fail
  rename_i KC hK
  have HKK : ∀ (g : Nat) (V : World) (z2 z7 z8 z9 z10 z11 z12 z13 z14 z15 : Value), Hid (V.heap[g]? = some (.cells #[.string S_s, .int .i64 v_a, .int .i64 v_b, .int .i64 v_c, .int .i64 v_x, .int .i64 v_y, .int .i64 v_z, .int .i64 v_n, .bool v_d] 99 (0, 0))) → Hid (V.heap[w.heap.size]? = some (.cells #[.int .i64 co, .string cS, .string cT, .int .i64 p, .int .i64 q, .int .i64 r, .int .i64 cn] 33 (0, 0))) → Hid (w.heap.size < g) → Hid (Below w.heap.size w V) →
      KC { tmps := #[.pointer (some ⟨b, 0, none⟩), .agg #[.int .i64 co, .string cS, .string cT, .int .i64 p, .int .i64 q, .int .i64 r, .int .i64 cn], z2, .pointer (some ⟨w.heap.size, 0, none⟩), .int .i64 0, .pointer (some ⟨g, 0, none⟩), .bool F, z7, z8, z9, z10, z11, z12, z13, z14, z15, undef, undef, undef, undef, undef, undef, undef, undef, undef, undef, undef, undef], defers := [] } V := by
    intro g V z2 z7 z8 z9 z10 z11 z12 z13 z14 z15 HRW HCX HNE HBV
    refine hK _ _ ?_
    clear hK HBX HB0
    cases F with
    | true =>
      obtain ⟨q0, q1, q2, q3, q4, q5, q6, q7, q8, q9, q10, q11, q12, q13, q14, q15, q16, q17⟩ := rowc9 HRW.out
      by_cases hn : 0 < v_n
      · obtain ⟨rfl, hPP⟩ := h1.out rfl hn
        have HPP := Lib.hid hPP
        clear hPP
        go_wp2_with fail
        go_ret
        exact ⟨rfl, HPP.out _ HBV.out⟩
      · obtain ⟨rfl, hPP⟩ := h2.out rfl (by omega)
        have HPP := Lib.hid hPP
        clear hPP
        go_wp2_with fail
        go_region_with (first | (go_at_call 82; (with_reducible refine (HPP.out _ HBV.out.drew).mono ?_); rintro e w3 ⟨rfl, hP⟩; have HP3 := Lib.hid hP; clear hP))
        all_goals go_wp2_with fail
        all_goals go_ret
        all_goals exact ⟨rfl, HP3.out⟩
    | false =>
      obtain ⟨rfl, hPP⟩ := h0.out rfl
      have HPP := Lib.hid hPP
      clear hPP
      go_wp2_with fail
      go_ret
      exact ⟨rfl, HPP.out _ HBV.out⟩
  clear hK
  have HZ := Lib.hid (show ((w.alloc (.cells #[.int .i64 co, .string cS, .string cT, .int .i64 p, .int .i64 q, .int .i64 r, .int .i64 cn] 33)).drew.alloc (.cells #[.string ⟨#[]⟩, .int .i64 0, .int .i64 0, .int .i64 0, .int .i64 0, .int .i64 0, .int .i64 0, .int .i64 0, .bool false] 99)).heap[w.heap.size + 1]? = some (.cells #[.string ⟨#[]⟩, .int .i64 0, .int .i64 0, .int .i64 0, .int .i64 0, .int .i64 0, .int .i64 0, .int .i64 0, .bool false] 99 (0, 0)) from by have := heap_alloc_new (w.alloc (.cells #[.int .i64 co, .string cS, .string cT, .int .i64 p, .int .i64 q, .int .i64 r, .int .i64 cn] 33)).drew (.cells #[.string ⟨#[]⟩, .int .i64 0, .int .i64 0, .int .i64 0, .int .i64 0, .int .i64 0, .int .i64 0, .int .i64 0, .bool false] 99); rwa [show (w.alloc (.cells #[.int .i64 co, .string cS, .string cT, .int .i64 p, .int .i64 q, .int .i64 r, .int .i64 cn] 33)).drew.heap.size = w.heap.size + 1 from by simp] at this)
  have HBA := Lib.hid (HB0.out.alloc (by simp) (.cells #[.string ⟨#[]⟩, .int .i64 0, .int .i64 0, .int .i64 0, .int .i64 0, .int .i64 0, .int .i64 0, .int .i64 0, .bool false] 99)).drew
  go_region_with (first
    | (go_at_call 75; (with_reducible refine (HG.out _ HB0.out.drew).mono ?_); rintro e w1 ⟨rfl, hb⟩; have hb2 := Lib.hid (HB0.out.drew.trans (hb.mono (by simp))); have FB := Lib.hid (HBX.out w1 ((Below.refl _ _).drew.trans hb)))
    | (go_at_call 75; (with_reducible refine (HG.out _ HBA.out).mono ?_); rintro e w1 ⟨rfl, hb⟩; have FR := Lib.hid ((hb.block (w.heap.size + 1) (by simp)).trans HZ.out); obtain ⟨q0, q1, q2, q3, q4, q5, q6, q7, q8, q9, q10, q11, q12, q13, q14, q15, q16, q17⟩ := rowc9 FR.out; have hb2 := Lib.hid (HBA.out.trans (hb.mono (by simp; omega))); have FB := Lib.hid (HBX.out w1 ((((Below.refl _ _).alloc (Nat.le_refl _) (.cells #[.string ⟨#[]⟩, .int .i64 0, .int .i64 0, .int .i64 0, .int .i64 0, .int .i64 0, .int .i64 0, .int .i64 0, .bool false] 99)).drew).trans (hb.mono (by simp))))))
  all_goals go_simp
  all_goals first
    | exact HKK w1.heap.size _ _ _ _ _ _ _ _ _ _ _ (Lib.hid (heap_alloc_new w1 _)) (Lib.hid ((Below.heap_alloc w1 _ _ (by have := hb2.out.size; have := (Array.getElem?_eq_some_iff.1 FB.out).1; omega)).trans FB.out)) (Lib.hid (by have := hb.size; simp at this; omega)) (Lib.hid (hb2.out.alloc hb2.out.size _))
    | exact HKK (w.heap.size + 1) _ _ _ _ _ _ _ _ _ _ _ (Lib.hid (wr9_row FR.out)) (Lib.hid ((wr9_far (by omega)).trans FB.out)) (Lib.hid (by omega)) (Lib.hid (wr9_below hb2.out (by omega)))
set_option maxHeartbeats 4000000 in
theorem report_core (b : Nat) (co : Int) (cS cT : ByteArray) (p q r cn : Int) (F : Bool) (S_s : ByteArray) (S_t : ByteArray) (v_p : Int) (v_q : Int) (v_r : Int) (S_on : ByteArray) (v_st : Int) (K1 K2 : ByteArray) (E : Int) (PP : World → Prop) (w : World)
    (HG : Hid (∀ X, Below w.heap.size w X → Calls Tryz.prog 74 #[.pointer (some ⟨b, 2, none⟩), .string cS] X (RetBelow (.tuple #[.agg #[.string S_s, .string S_t, .int .i64 v_p, .int .i64 v_q, .int .i64 v_r, .string S_on, .int .i64 v_st], .bool F]) X)))
    (h0 : Hid (F = false → E = 10 ∧ ∀ X, Below w.heap.size w X → PP X))
    (HK1 : Hid (∀ X, Calls Tryz.prog 90 #[.string S_on] X (RetBelow (.string K1) X)))
    (HK2 : Hid (∀ X, Calls Tryz.prog 90 #[.string cT] X (RetBelow (.string K2) X)))
    (h1 : Hid (F = true → ¬ K1 = K2 → E = 10 ∧ ∀ X, Below w.heap.size w X → PP X))
    (h2 : Hid (F = true → K1 = K2 → E = 0 ∧ ∀ X, Below w.heap.size w X → Calls Tryz.prog 91 #[.pointer (some ⟨b, 2, none⟩), .string S_s, .agg #[.string S_s, .string S_t, .int .i64 v_p, .int .i64 v_q, .int .i64 v_r, .string S_on, .int .i64 cn]] X fun e w' => e = .returned (.tuple #[]) ∧ PP w')) :
    Calls Tryz.prog 43 #[.pointer (some ⟨b, 0, none⟩), .agg #[.int .i64 co, .string cS, .string cT, .int .i64 p, .int .i64 q, .int .i64 r, .int .i64 cn]] w fun e w' => e = .returned (.int .i64 E) ∧ PP w' := by
  have HB0 := Lib.hid ((Below.refl w.heap.size w).alloc (Nat.le_refl _) (.cells #[.int .i64 co, .string cS, .string cT, .int .i64 p, .int .i64 q, .int .i64 r, .int .i64 cn] 33))
  have HBX := Lib.hid (show ∀ X, Below (w.alloc (.cells #[.int .i64 co, .string cS, .string cT, .int .i64 p, .int .i64 q, .int .i64 r, .int .i64 cn] 33)).heap.size (w.alloc (.cells #[.int .i64 co, .string cS, .string cT, .int .i64 p, .int .i64 q, .int .i64 r, .int .i64 cn] 33)) X → X.heap[w.heap.size]? = some (.cells #[.int .i64 co, .string cS, .string cT, .int .i64 p, .int .i64 q, .int .i64 r, .int .i64 cn] 33 (0, 0)) from fun X h => (h.block _ (by simp)).trans (heap_alloc_new w _))
  go_enter Tryz.func43, Tryz.ntmps43
  go_wp2_with fail
  rename_i KC hK
  have HKK : ∀ (g : Nat) (V : World) (z2 z7 z8 z9 z10 z11 z12 z13 z14 z15 : Value), Hid (V.heap[g]? = some (.cells #[.string S_s, .string S_t, .int .i64 v_p, .int .i64 v_q, .int .i64 v_r, .string S_on, .int .i64 v_st] 46 (0, 0))) → Hid (V.heap[w.heap.size]? = some (.cells #[.int .i64 co, .string cS, .string cT, .int .i64 p, .int .i64 q, .int .i64 r, .int .i64 cn] 33 (0, 0))) → Hid (w.heap.size < g) → Hid (Below w.heap.size w V) →
      KC { tmps := #[.pointer (some ⟨b, 0, none⟩), .agg #[.int .i64 co, .string cS, .string cT, .int .i64 p, .int .i64 q, .int .i64 r, .int .i64 cn], z2, .pointer (some ⟨w.heap.size, 0, none⟩), .int .i64 0, .pointer (some ⟨g, 0, none⟩), .bool F, z7, z8, z9, z10, z11, z12, z13, z14, z15, undef, undef, undef, undef, undef, undef, undef, undef, undef, undef, undef, undef, undef, undef, undef, undef, undef, undef, undef, undef, undef], defers := [] } V := by
    intro g V z2 z7 z8 z9 z10 z11 z12 z13 z14 z15 HRW HCX HNE HBV
    refine hK _ _ ?_
    clear hK HBX HB0
    cases F with
    | true =>
      have HXX := Lib.hid (show ∀ X, Below V.heap.size V X → X.heap[g]? = some (.cells #[.string S_s, .string S_t, .int .i64 v_p, .int .i64 v_q, .int .i64 v_r, .string S_on, .int .i64 v_st] 46 (0, 0)) ∧ X.heap[w.heap.size]? = some (.cells #[.int .i64 co, .string cS, .string cT, .int .i64 p, .int .i64 q, .int .i64 r, .int .i64 cn] 33 (0, 0)) from fun X h => ⟨(h.block g (Array.getElem?_eq_some_iff.1 HRW.out).1).trans HRW.out, (h.block _ (Array.getElem?_eq_some_iff.1 HCX.out).1).trans HCX.out⟩)
      obtain ⟨q0, q1, q2, q3, q4, q5, q6, _⟩ := rowc7 HRW.out
      obtain ⟨p0, p1, p2, p3, p4, p5, p6, _⟩ := rowc7 HCX.out
      by_cases hkk : K1 = K2
      · obtain ⟨rfl, hPP⟩ := h2.out rfl hkk
        have HPP := Lib.hid hPP
        have hq : (K1.toList == K2.toList) = true := by rw [hkk]; exact beq_self_eq_true _
        have hq2 : (K1 == K2) = true := (beq_toListBytes _ _).trans hq
        clear hPP hkk
        go_wp2_with fail
        have ZA := fun Z : Wd (fun X => Below V.heap.size V X) => cellB q5 Z.ok (Array.getElem?_eq_some_iff.1 HRW.out).1
        have ZB := fun Z : Wd (fun X => Below V.heap.size V X) => cellB p2 Z.ok (Array.getElem?_eq_some_iff.1 HCX.out).1
        have CT1 := Lib.hid fun Z : Wd (fun X => Below V.heap.size V X) => Calls.in_class Z ((HK1.out Z.X).mono fun e w' h => ⟨h.1, h.2⟩) (fun X h1 h2 => h1.trans (h2.mono h1.size))
        have CT2 := Lib.hid fun Z : Wd (fun X => Below V.heap.size V X) => Calls.in_class Z ((HK2.out Z.X).mono fun e w' h => ⟨h.1, h.2⟩) (fun X h1 h2 => h1.trans (h2.mono h1.size))
        refine wp_region_class (fun X => Below V.heap.size V X) (by kernel_rfl) (by kernel_rfl) (Below.refl _ _).drew (fun hne => ?_)
        haveI := hne
        iterate 5 (quiet_step (fail))
        quiet_step ((go_at_call 90; with_reducible exact CT1.out _))
        iterate 2 (quiet_step (fail))
        quiet_step ((go_at_call 90; with_reducible exact CT2.out _))
        iterate 2 (quiet_step (fail))
        refine wpQuiet_nil ?_
        intro z1 hz1
        obtain ⟨⟨z1, hB1⟩, rfl⟩ := hz1
        have HB1 := Lib.hid hB1
        clear hB1 ZA ZB
        have HRW1 := Lib.hid ((HB1.out.block g (Array.getElem?_eq_some_iff.1 HRW.out).1).trans HRW.out)
        have HCX1 := Lib.hid ((HB1.out.block _ (Array.getElem?_eq_some_iff.1 HCX.out).1).trans HCX.out)
        have HBV1 := Lib.hid (HBV.out.trans (HB1.out.mono HBV.out.size))
        clear q0 q1 q2 q3 q4 q5 q6 p0 p1 p2 p3 p4 p5 p6
        obtain ⟨q0, q1, q2, q3, q4, q5, q6, j0, j1, j2, j3, j4, j5, j6⟩ := rowc7 HRW1.out
        obtain ⟨p0, p1, p2, p3, p4, p5, p6, _⟩ := rowc7 HCX1.out
        have HR2 : Hid ((z1.setCell ⟨g, 6, none⟩ (.int .i64 cn)).heap[g]? = some (.cells #[.string S_s, .string S_t, .int .i64 v_p, .int .i64 v_q, .int .i64 v_r, .string S_on, .int .i64 cn] 46 (0, 0))) := Lib.hid (by have := Wi.heap_set z1 g 6 (.int .i64 cn) _ _ HRW1.out; simpa only [List.setIfInBounds_toArray, List.set_cons_zero, List.set_cons_succ] using this)
        have HB2 : Hid (Below w.heap.size w (z1.setCell ⟨g, 6, none⟩ (.int .i64 cn))) := Lib.hid (HBV1.out.setCell (p := ⟨g, 6, none⟩) (Nat.le_of_lt HNE.out) _)
        go_wp2_with fail
        generalize z1.setCell ⟨g, 6, none⟩ (.int .i64 cn) = W2 at *
        clear q0 q1 q2 q3 q4 q5 q6 p0 p1 p2 p3 p4 p5 p6 j0 j1 j2 j3 j4 j5 j6
        obtain ⟨q0, q1, q2, q3, q4, q5, q6, j0, j1, j2, j3, j4, j5, j6⟩ := rowc7 HR2.out
        go_region_with (first | (go_at_call 91; (with_reducible refine (HPP.out _ HB2.out.drew).mono ?_); rintro e w3 ⟨rfl, hP⟩; have HP3 := Lib.hid hP; clear hP))
        all_goals go_wp2_with fail
        all_goals go_ret
        all_goals exact ⟨rfl, HP3.out⟩
      · obtain ⟨rfl, hPP⟩ := h1.out rfl hkk
        have HPP := Lib.hid hPP
        have hq : (K1.toList == K2.toList) = false := by rw [beq_eq_false_iff_ne, ne_eq, Wi.toList_iff]; exact hkk
        have hq2 : (K1 == K2) = false := (beq_toListBytes _ _).trans hq
        clear hPP hkk
        go_wp2_with fail
        have ZA := fun Z : Wd (fun X => Below V.heap.size V X) => cellB q5 Z.ok (Array.getElem?_eq_some_iff.1 HRW.out).1
        have ZB := fun Z : Wd (fun X => Below V.heap.size V X) => cellB p2 Z.ok (Array.getElem?_eq_some_iff.1 HCX.out).1
        have CT1 := Lib.hid fun Z : Wd (fun X => Below V.heap.size V X) => Calls.in_class Z ((HK1.out Z.X).mono fun e w' h => ⟨h.1, h.2⟩) (fun X h1 h2 => h1.trans (h2.mono h1.size))
        have CT2 := Lib.hid fun Z : Wd (fun X => Below V.heap.size V X) => Calls.in_class Z ((HK2.out Z.X).mono fun e w' h => ⟨h.1, h.2⟩) (fun X h1 h2 => h1.trans (h2.mono h1.size))
        refine wp_region_class (fun X => Below V.heap.size V X) (by kernel_rfl) (by kernel_rfl) (Below.refl _ _).drew (fun hne => ?_)
        haveI := hne
        iterate 5 (quiet_step (fail))
        quiet_step ((go_at_call 90; with_reducible exact CT1.out _))
        iterate 2 (quiet_step (fail))
        quiet_step ((go_at_call 90; with_reducible exact CT2.out _))
        iterate 2 (quiet_step (fail))
        refine wpQuiet_nil ?_
        intro z1 hz1
        obtain ⟨⟨z1, hB1⟩, rfl⟩ := hz1
        have HB1 := Lib.hid hB1
        clear hB1 ZA ZB
        go_wp2_with fail
        go_ret
        exact ⟨rfl, HPP.out _ (HBV.out.trans (HB1.out.mono HBV.out.size))⟩
    | false =>
      obtain ⟨rfl, hPP⟩ := h0.out rfl
      have HPP := Lib.hid hPP
      clear hPP
      go_wp2_with fail
      go_quiet (fail)
      go_wp2_with fail
      go_ret
      exact ⟨rfl, HPP.out _ (Vc.below_drewN HBV.out _)⟩
  clear hK
  have HZ := Lib.hid (show ((w.alloc (.cells #[.int .i64 co, .string cS, .string cT, .int .i64 p, .int .i64 q, .int .i64 r, .int .i64 cn] 33)).drew.alloc (.cells #[.string ⟨#[]⟩, .string ⟨#[]⟩, .int .i64 0, .int .i64 0, .int .i64 0, .string ⟨#[]⟩, .int .i64 0] 46)).heap[w.heap.size + 1]? = some (.cells #[.string ⟨#[]⟩, .string ⟨#[]⟩, .int .i64 0, .int .i64 0, .int .i64 0, .string ⟨#[]⟩, .int .i64 0] 46 (0, 0)) from by have := heap_alloc_new (w.alloc (.cells #[.int .i64 co, .string cS, .string cT, .int .i64 p, .int .i64 q, .int .i64 r, .int .i64 cn] 33)).drew (.cells #[.string ⟨#[]⟩, .string ⟨#[]⟩, .int .i64 0, .int .i64 0, .int .i64 0, .string ⟨#[]⟩, .int .i64 0] 46); rwa [show (w.alloc (.cells #[.int .i64 co, .string cS, .string cT, .int .i64 p, .int .i64 q, .int .i64 r, .int .i64 cn] 33)).drew.heap.size = w.heap.size + 1 from by simp] at this)
  have HBA := Lib.hid (HB0.out.alloc (by simp) (.cells #[.string ⟨#[]⟩, .string ⟨#[]⟩, .int .i64 0, .int .i64 0, .int .i64 0, .string ⟨#[]⟩, .int .i64 0] 46)).drew
  go_region_with (first
    | (go_at_call 74; (with_reducible refine (HG.out _ HB0.out.drew).mono ?_); rintro e w1 ⟨rfl, hb⟩; have hb2 := Lib.hid (HB0.out.drew.trans (hb.mono (by simp))); have FB := Lib.hid (HBX.out w1 ((Below.refl _ _).drew.trans hb)))
    | (go_at_call 74; (with_reducible refine (HG.out _ HBA.out).mono ?_); rintro e w1 ⟨rfl, hb⟩; have FR := Lib.hid ((hb.block (w.heap.size + 1) (by simp)).trans HZ.out); obtain ⟨q0, q1, q2, q3, q4, q5, q6, q7, q8, q9, q10, q11, q12, q13⟩ := rowc7 FR.out; have hb2 := Lib.hid (HBA.out.trans (hb.mono (by simp; omega))); have FB := Lib.hid (HBX.out w1 ((((Below.refl _ _).alloc (Nat.le_refl _) (.cells #[.string ⟨#[]⟩, .string ⟨#[]⟩, .int .i64 0, .int .i64 0, .int .i64 0, .string ⟨#[]⟩, .int .i64 0] 46)).drew).trans (hb.mono (by simp))))))
  all_goals go_simp
  all_goals first
    | exact HKK w1.heap.size _ _ _ _ _ _ _ _ _ _ _ (Lib.hid (heap_alloc_new w1 _)) (Lib.hid ((Below.heap_alloc w1 _ _ (by have := hb2.out.size; have := (Array.getElem?_eq_some_iff.1 FB.out).1; omega)).trans FB.out)) (Lib.hid (by have := hb.size; simp at this; omega)) (Lib.hid (hb2.out.alloc hb2.out.size _))
    | exact HKK (w.heap.size + 1) _ _ _ _ _ _ _ _ _ _ _ (Lib.hid (wr7_row FR.out)) (Lib.hid ((wr7_far (by omega)).trans FB.out)) (Lib.hid (by omega)) (Lib.hid (wr7_below hb2.out (by omega)))
end Go.Proofs.YtphclpjekpdifaaGreat
