import Derived.Test.YtphclpjekpdifaaGreatYQ
import Derived.Deep.RegionWith
namespace Go.Proofs.YtphclpjekpdifaaGreat
set_option maxRecDepth 20000
open Go.RowKit
open PS (Tx putM dropM setM findM Nod Ten Jb kOf St)
open Go.Proofs.YtphclpjekpdifaaGreat.Nm (str)
open Go.Proofs.YtphclpjekpdifaaGreat.Vc (RetBelow fitB I64)
set_option linter.unusedVariables false
set_option maxHeartbeats 4000000 in
theorem setN_core (b : Nat) (co : Int) (cS cT : ByteArray) (p q r cn : Int) (F full fit : Bool) (S_s : ByteArray) (v_a : Int) (v_b : Int) (v_c : Int) (v_x : Int) (v_y : Int) (v_z : Int) (v_n : Int) (v_d : Bool) (E : Int) (PP : World → Prop) (w : World)
    (HG : Hid (∀ X, Below w.heap.size w X → Calls Tryz.prog 75 #[.pointer (some ⟨b, 0, none⟩), .string cS] X (RetBelow (.tuple #[.agg #[.string S_s, .int .i64 v_a, .int .i64 v_b, .int .i64 v_c, .int .i64 v_x, .int .i64 v_y, .int .i64 v_z, .int .i64 v_n, .bool v_d], .bool F]) X)))
    (HFL : Hid (∀ X, Below w.heap.size w X → Calls Tryz.prog 79 #[.pointer (some ⟨b, 0, none⟩), .int .i64 32] X fun e w' => e = .returned (.bool full) ∧ X = w'))
    (HFT : Hid (fitB v_x v_y v_z p q r = fit))
    (h0 : Hid (F = false → full = true → E = 3 ∧ ∀ X, Below w.heap.size w X → PP X))
    (h1 : Hid ((F = true ∨ full = false) → fit = false → E = 14 ∧ ∀ X, Below w.heap.size w X → PP X))
    (h2 : Hid ((F = true ∨ full = false) → fit = true → E = 0 ∧ ∀ X, Below w.heap.size w X → Calls Tryz.prog 81 #[.pointer (some ⟨b, 0, none⟩), .string (if F = true then S_s else cS), .agg #[.string (if F = true then S_s else cS), .int .i64 p, .int .i64 q, .int .i64 r, .int .i64 v_x, .int .i64 v_y, .int .i64 v_z, .int .i64 v_n, .bool v_d]] X fun e w' => e = .returned (.tuple #[]) ∧ PP w')) :
    Calls Tryz.prog 37 #[.pointer (some ⟨b, 0, none⟩), .agg #[.int .i64 co, .string cS, .string cT, .int .i64 p, .int .i64 q, .int .i64 r, .int .i64 cn]] w fun e w' => e = .returned (.int .i64 E) ∧ PP w' := by
  have HB0 := Lib.hid ((Below.refl w.heap.size w).alloc (Nat.le_refl _) (.cells #[.int .i64 co, .string cS, .string cT, .int .i64 p, .int .i64 q, .int .i64 r, .int .i64 cn] 33))
  have HBX := Lib.hid (show ∀ X, Below (w.alloc (.cells #[.int .i64 co, .string cS, .string cT, .int .i64 p, .int .i64 q, .int .i64 r, .int .i64 cn] 33)).heap.size (w.alloc (.cells #[.int .i64 co, .string cS, .string cT, .int .i64 p, .int .i64 q, .int .i64 r, .int .i64 cn] 33)) X → X.heap[w.heap.size]? = some (.cells #[.int .i64 co, .string cS, .string cT, .int .i64 p, .int .i64 q, .int .i64 r, .int .i64 cn] 33 (0, 0)) from fun X h => (h.block _ (by simp)).trans (heap_alloc_new w _))
  go_enter Tryz.func37, Tryz.ntmps37
  go_wp2_with fail
  rename_i KC hK
  have HKK : ∀ (g : Nat) (V : World) (z2 z7 z8 z9 z10 z11 z12 z13 z14 z15 : Value), Hid (V.heap[g]? = some (.cells #[.string S_s, .int .i64 v_a, .int .i64 v_b, .int .i64 v_c, .int .i64 v_x, .int .i64 v_y, .int .i64 v_z, .int .i64 v_n, .bool v_d] 99 (0, 0))) → Hid (V.heap[w.heap.size]? = some (.cells #[.int .i64 co, .string cS, .string cT, .int .i64 p, .int .i64 q, .int .i64 r, .int .i64 cn] 33 (0, 0))) → Hid (w.heap.size < g) → Hid (Below w.heap.size w V) →
      KC { tmps := #[.pointer (some ⟨b, 0, none⟩), .agg #[.int .i64 co, .string cS, .string cT, .int .i64 p, .int .i64 q, .int .i64 r, .int .i64 cn], z2, .pointer (some ⟨w.heap.size, 0, none⟩), .int .i64 0, .pointer (some ⟨g, 0, none⟩), .bool F, z7, z8, z9, z10, z11, z12, z13, z14, z15, undef, undef, undef, undef, undef, undef, undef, undef, undef, undef, undef, undef, undef, undef, undef, undef, undef, undef, undef, undef, undef], defers := [] } V := by
    intro g V z2 z7 z8 z9 z10 z11 z12 z13 z14 z15 HRW HCX HNE HBV
    refine hK _ _ ?_
    clear hK HBX HB0
    cases F with
    | true =>
      rw [if_pos rfl] at h2
      obtain ⟨r0, r1, r2, r3, r4, r5, r6, r7, r8, f0, f1, f2, f3, f4, f5, f6, f7, f8⟩ := rowc9 HRW.out
      have HRM := Lib.hid (show RmC V g v_a v_b v_c v_x v_y v_z v_n from ⟨r1, r2, r3, r4, r5, r6, r7, fun o => Lib.frozen_of_heap HRW.out o⟩)
      obtain ⟨_, _, _, k3, k4, k5, _⟩ := rowc7 HCX.out
      cases fit with
      | false =>
        obtain ⟨rfl, hPP⟩ := h1.out (.inl rfl) rfl
        have HPP := Lib.hid hPP
        clear hPP
        go_wp2_with (first | (go_at_call 80; (with_reducible refine (resize_no g v_a v_b v_c v_x v_y v_z v_n p q r _ HRM.out HFT.out).mono ?_); rintro e w1 ⟨rfl, hb⟩))
        go_ret
        exact ⟨rfl, HPP.out _ (HBV.out.trans (hb.mono HBV.out.size))⟩
      | true =>
        obtain ⟨rfl, hPP⟩ := h2.out (.inl rfl) rfl
        have HPP := Lib.hid hPP
        clear hPP
        go_wp2_with (first | (go_at_call 80; (with_reducible refine (resize_yes g v_a v_b v_c v_x v_y v_z v_n p q r _ HRM.out HFT.out).mono ?_); rintro e w1' ⟨rfl, w1, hb, rfl⟩; have HR2 := Lib.hid (setMost_row9 p q r ((hb.block g (Array.getElem?_eq_some_iff.1 HRW.out).1).trans HRW.out)); have HB2 := Lib.hid (setMost_below p q r (HBV.out.trans (hb.mono HBV.out.size)) (Nat.le_of_lt HNE.out)); generalize setMost w1 g p q r = W2 at *; obtain ⟨q0, q1, q2, q3, q4, q5, q6, q7, q8, q9, q10, q11, q12, q13, q14, q15, q16, q17⟩ := rowc9 HR2.out; clear hb r0 r1 r2 r3 r4 r5 r6 r7 f0 f1 f2 f3 f4 f5 f6 f7 k3 k4 k5))
        go_region_with (first | (go_at_call 81; (with_reducible refine (HPP.out _ HB2.out.drew).mono ?_); rintro e w3 ⟨rfl, hP⟩; have HP3 := Lib.hid hP; clear hP))
        all_goals go_wp2_with fail
        all_goals go_ret
        all_goals exact ⟨rfl, HP3.out⟩
    | false =>
      rw [if_neg (by simp)] at h2
      cases full with
      | true =>
        obtain ⟨rfl, hPP⟩ := h0.out rfl rfl
        have HPP := Lib.hid hPP
        clear hPP
        go_wp2_with (first | (go_at_call 79; (with_reducible refine (HFL.out _ HBV.out).mono ?_); rintro e w1 ⟨rfl, rfl⟩))
        go_ret
        exact ⟨rfl, HPP.out _ HBV.out⟩
      | false =>
        obtain ⟨s0, s1, s2, s3, s4, s5, s6, s7, s8, st0, _⟩ := rowc9 HRW.out
        obtain ⟨_, i1, _⟩ := rowc7 HCX.out
        have HNG := Lib.hid (show ¬ g = w.heap.size by have := HNE.out; omega)
        go_wp2_with (first | (go_at_call 79; (with_reducible refine (HFL.out _ HBV.out).mono ?_); rintro e w1 ⟨rfl, rfl⟩))
        have HRW0 : Hid ((V.setCell ⟨g, 0, none⟩ (.string cS)).heap[g]? = some (.cells #[.string cS, .int .i64 v_a, .int .i64 v_b, .int .i64 v_c, .int .i64 v_x, .int .i64 v_y, .int .i64 v_z, .int .i64 v_n, .bool v_d] 99 (0, 0))) := Lib.hid (by have := Wi.heap_set V g 0 (.string cS) _ _ HRW.out; simpa only [List.setIfInBounds_toArray, List.set_cons_zero, List.set_cons_succ] using this)
        have HCX0 : Hid ((V.setCell ⟨g, 0, none⟩ (.string cS)).heap[w.heap.size]? = some (.cells #[.int .i64 co, .string cS, .string cT, .int .i64 p, .int .i64 q, .int .i64 r, .int .i64 cn] 33 (0, 0))) := Lib.hid ((Below.heap_setCell V ⟨g, 0, none⟩ _ w.heap.size (Nat.ne_of_lt HNE.out)).trans HCX.out)
        have HBV0 : Hid (Below w.heap.size w (V.setCell ⟨g, 0, none⟩ (.string cS))) := Lib.hid (HBV.out.setCell (p := ⟨g, 0, none⟩) (Nat.le_of_lt HNE.out) _)
        generalize V.setCell ⟨g, 0, none⟩ (.string cS) = V0 at *
        clear s0 s1 s2 s3 s4 s5 s6 s7 st0 i1 HRW HCX HBV
        obtain ⟨r0, r1, r2, r3, r4, r5, r6, r7, r8, f0, f1, f2, f3, f4, f5, f6, f7, f8⟩ := rowc9 HRW0.out
        have HRM := Lib.hid (show RmC V0 g v_a v_b v_c v_x v_y v_z v_n from ⟨r1, r2, r3, r4, r5, r6, r7, fun o => Lib.frozen_of_heap HRW0.out o⟩)
        obtain ⟨_, _, _, k3, k4, k5, _⟩ := rowc7 HCX0.out
        cases fit with
        | false =>
          obtain ⟨rfl, hPP⟩ := h1.out (by first | exact .inr rfl | trivial) rfl
          have HPP := Lib.hid hPP
          clear hPP
          go_wp2_with (first | (go_at_call 80; (with_reducible refine (resize_no g v_a v_b v_c v_x v_y v_z v_n p q r _ HRM.out HFT.out).mono ?_); rintro e w1 ⟨rfl, hb⟩))
          go_ret
          exact ⟨rfl, HPP.out _ (HBV0.out.trans (hb.mono HBV0.out.size))⟩
        | true =>
          obtain ⟨rfl, hPP⟩ := h2.out (by first | exact .inr rfl | trivial) rfl
          have HPP := Lib.hid hPP
          clear hPP
          go_wp2_with (first | (go_at_call 80; (with_reducible refine (resize_yes g v_a v_b v_c v_x v_y v_z v_n p q r _ HRM.out HFT.out).mono ?_); rintro e w1' ⟨rfl, w1, hb, rfl⟩; have HR2 := Lib.hid (setMost_row9 p q r ((hb.block g (Array.getElem?_eq_some_iff.1 HRW0.out).1).trans HRW0.out)); have HB2 := Lib.hid (setMost_below p q r (HBV0.out.trans (hb.mono HBV0.out.size)) (Nat.le_of_lt HNE.out)); generalize setMost w1 g p q r = W2 at *; obtain ⟨q0, q1, q2, q3, q4, q5, q6, q7, q8, q9, q10, q11, q12, q13, q14, q15, q16, q17⟩ := rowc9 HR2.out; clear hb r0 r1 r2 r3 r4 r5 r6 r7 f0 f1 f2 f3 f4 f5 f6 f7 k3 k4 k5))
          go_region_with (first | (go_at_call 81; (with_reducible refine (HPP.out _ HB2.out.drew).mono ?_); rintro e w3 ⟨rfl, hP⟩; have HP3 := Lib.hid hP; clear hP))
          all_goals go_wp2_with fail
          all_goals go_ret
          all_goals exact ⟨rfl, HP3.out⟩
  clear hK
  have HZ := Lib.hid (show ((w.alloc (.cells #[.int .i64 co, .string cS, .string cT, .int .i64 p, .int .i64 q, .int .i64 r, .int .i64 cn] 33)).drew.alloc (.cells #[.string ⟨#[]⟩, .int .i64 0, .int .i64 0, .int .i64 0, .int .i64 0, .int .i64 0, .int .i64 0, .int .i64 0, .bool false] 99)).heap[w.heap.size + 1]? = some (.cells #[.string ⟨#[]⟩, .int .i64 0, .int .i64 0, .int .i64 0, .int .i64 0, .int .i64 0, .int .i64 0, .int .i64 0, .bool false] 99 (0, 0)) from by have := heap_alloc_new (w.alloc (.cells #[.int .i64 co, .string cS, .string cT, .int .i64 p, .int .i64 q, .int .i64 r, .int .i64 cn] 33)).drew (.cells #[.string ⟨#[]⟩, .int .i64 0, .int .i64 0, .int .i64 0, .int .i64 0, .int .i64 0, .int .i64 0, .int .i64 0, .bool false] 99); rwa [show (w.alloc (.cells #[.int .i64 co, .string cS, .string cT, .int .i64 p, .int .i64 q, .int .i64 r, .int .i64 cn] 33)).drew.heap.size = w.heap.size + 1 from by simp] at this)
  have HBA := Lib.hid (HB0.out.alloc (by simp) (.cells #[.string ⟨#[]⟩, .int .i64 0, .int .i64 0, .int .i64 0, .int .i64 0, .int .i64 0, .int .i64 0, .int .i64 0, .bool false] 99)).drew
  go_region_with (first
    | (go_at_call 75; (with_reducible refine (HG.out _ HB0.out.drew).mono ?_); rintro e w1 ⟨rfl, hb⟩; have hb2 := Lib.hid (HB0.out.drew.trans (hb.mono (by simp))); have FB := Lib.hid (HBX.out w1 ((Below.refl _ _).drew.trans hb)))
    | (go_at_call 75; (with_reducible refine (HG.out _ HBA.out).mono ?_); rintro e w1 ⟨rfl, hb⟩; have FR := Lib.hid ((hb.block (w.heap.size + 1) (by simp)).trans HZ.out); obtain ⟨q0, q1, q2, q3, q4, q5, q6, q7, q8, q9, q10, q11, q12, q13, q14, q15, q16, q17⟩ := rowc9 FR.out; have hb2 := Lib.hid (HBA.out.trans (hb.mono (by simp; omega))); have FB := Lib.hid (HBX.out w1 ((((Below.refl _ _).alloc (Nat.le_refl _) (.cells #[.string ⟨#[]⟩, .int .i64 0, .int .i64 0, .int .i64 0, .int .i64 0, .int .i64 0, .int .i64 0, .int .i64 0, .bool false] 99)).drew).trans (hb.mono (by simp))))))
  all_goals go_simp
  all_goals first
    | exact HKK w1.heap.size _ _ _ _ _ _ _ _ _ _ _ (Lib.hid (heap_alloc_new w1 _)) (Lib.hid ((Below.heap_alloc w1 _ _ (by have := hb2.out.size; have := (Array.getElem?_eq_some_iff.1 FB.out).1; omega)).trans FB.out)) (Lib.hid (by have := hb.size; simp at this; omega)) (Lib.hid (hb2.out.alloc hb2.out.size _))
    | exact HKK (w.heap.size + 1) _ _ _ _ _ _ _ _ _ _ _ (Lib.hid (wr9_row FR.out)) (Lib.hid ((wr9_far (by omega)).trans FB.out)) (Lib.hid (by omega)) (Lib.hid (wr9_below hb2.out (by omega)))
set_option maxHeartbeats 4000000 in
theorem setT_core (b : Nat) (co : Int) (cS cT : ByteArray) (p q r cn : Int) (F full fit : Bool) (S_s : ByteArray) (v_a : Int) (v_b : Int) (v_c : Int) (v_x : Int) (v_y : Int) (v_z : Int) (v_n : Int) (E : Int) (PP : World → Prop) (w : World)
    (HG : Hid (∀ X, Below w.heap.size w X → Calls Tryz.prog 76 #[.pointer (some ⟨b, 1, none⟩), .string cS] X (RetBelow (.tuple #[.agg #[.string S_s, .int .i64 v_a, .int .i64 v_b, .int .i64 v_c, .int .i64 v_x, .int .i64 v_y, .int .i64 v_z, .int .i64 v_n], .bool F]) X)))
    (HFL : Hid (∀ X, Below w.heap.size w X → Calls Tryz.prog 83 #[.pointer (some ⟨b, 1, none⟩), .int .i64 32] X fun e w' => e = .returned (.bool full) ∧ X = w'))
    (HFT : Hid (fitB v_x v_y v_z p q r = fit))
    (h0 : Hid (F = false → full = true → E = 3 ∧ ∀ X, Below w.heap.size w X → PP X))
    (h1 : Hid ((F = true ∨ full = false) → fit = false → E = 13 ∧ ∀ X, Below w.heap.size w X → PP X))
    (h2 : Hid ((F = true ∨ full = false) → fit = true → E = 0 ∧ ∀ X, Below w.heap.size w X → Calls Tryz.prog 84 #[.pointer (some ⟨b, 1, none⟩), .string (if F = true then S_s else cS), .agg #[.string (if F = true then S_s else cS), .int .i64 p, .int .i64 q, .int .i64 r, .int .i64 v_x, .int .i64 v_y, .int .i64 v_z, .int .i64 v_n]] X fun e w' => e = .returned (.tuple #[]) ∧ PP w')) :
    Calls Tryz.prog 40 #[.pointer (some ⟨b, 0, none⟩), .agg #[.int .i64 co, .string cS, .string cT, .int .i64 p, .int .i64 q, .int .i64 r, .int .i64 cn]] w fun e w' => e = .returned (.int .i64 E) ∧ PP w' := by
  have HB0 := Lib.hid ((Below.refl w.heap.size w).alloc (Nat.le_refl _) (.cells #[.int .i64 co, .string cS, .string cT, .int .i64 p, .int .i64 q, .int .i64 r, .int .i64 cn] 33))
  have HBX := Lib.hid (show ∀ X, Below (w.alloc (.cells #[.int .i64 co, .string cS, .string cT, .int .i64 p, .int .i64 q, .int .i64 r, .int .i64 cn] 33)).heap.size (w.alloc (.cells #[.int .i64 co, .string cS, .string cT, .int .i64 p, .int .i64 q, .int .i64 r, .int .i64 cn] 33)) X → X.heap[w.heap.size]? = some (.cells #[.int .i64 co, .string cS, .string cT, .int .i64 p, .int .i64 q, .int .i64 r, .int .i64 cn] 33 (0, 0)) from fun X h => (h.block _ (by simp)).trans (heap_alloc_new w _))
  go_enter Tryz.func40, Tryz.ntmps40
  go_wp2_with fail
  rename_i KC hK
  have HKK : ∀ (g : Nat) (V : World) (z2 z7 z8 z9 z10 z11 z12 z13 z14 z15 : Value), Hid (V.heap[g]? = some (.cells #[.string S_s, .int .i64 v_a, .int .i64 v_b, .int .i64 v_c, .int .i64 v_x, .int .i64 v_y, .int .i64 v_z, .int .i64 v_n] 104 (0, 0))) → Hid (V.heap[w.heap.size]? = some (.cells #[.int .i64 co, .string cS, .string cT, .int .i64 p, .int .i64 q, .int .i64 r, .int .i64 cn] 33 (0, 0))) → Hid (w.heap.size < g) → Hid (Below w.heap.size w V) →
      KC { tmps := #[.pointer (some ⟨b, 0, none⟩), .agg #[.int .i64 co, .string cS, .string cT, .int .i64 p, .int .i64 q, .int .i64 r, .int .i64 cn], z2, .pointer (some ⟨w.heap.size, 0, none⟩), .int .i64 0, .pointer (some ⟨g, 0, none⟩), .bool F, z7, z8, z9, z10, z11, z12, z13, z14, z15, undef, undef, undef, undef, undef, undef, undef, undef, undef, undef, undef, undef, undef, undef, undef, undef, undef, undef, undef, undef, undef], defers := [] } V := by
    intro g V z2 z7 z8 z9 z10 z11 z12 z13 z14 z15 HRW HCX HNE HBV
    refine hK _ _ ?_
    clear hK HBX HB0
    cases F with
    | true =>
      rw [if_pos rfl] at h2
      obtain ⟨r0, r1, r2, r3, r4, r5, r6, r7, f0, f1, f2, f3, f4, f5, f6, f7⟩ := rowc8 HRW.out
      have HRM := Lib.hid (show RmC V g v_a v_b v_c v_x v_y v_z v_n from ⟨r1, r2, r3, r4, r5, r6, r7, fun o => Lib.frozen_of_heap HRW.out o⟩)
      obtain ⟨_, _, _, k3, k4, k5, _⟩ := rowc7 HCX.out
      cases fit with
      | false =>
        obtain ⟨rfl, hPP⟩ := h1.out (.inl rfl) rfl
        have HPP := Lib.hid hPP
        clear hPP
        go_wp2_with (first | (go_at_call 80; (with_reducible refine (resize_no g v_a v_b v_c v_x v_y v_z v_n p q r _ HRM.out HFT.out).mono ?_); rintro e w1 ⟨rfl, hb⟩))
        go_ret
        exact ⟨rfl, HPP.out _ (HBV.out.trans (hb.mono HBV.out.size))⟩
      | true =>
        obtain ⟨rfl, hPP⟩ := h2.out (.inl rfl) rfl
        have HPP := Lib.hid hPP
        clear hPP
        go_wp2_with (first | (go_at_call 80; (with_reducible refine (resize_yes g v_a v_b v_c v_x v_y v_z v_n p q r _ HRM.out HFT.out).mono ?_); rintro e w1' ⟨rfl, w1, hb, rfl⟩; have HR2 := Lib.hid (setMost_row8 p q r ((hb.block g (Array.getElem?_eq_some_iff.1 HRW.out).1).trans HRW.out)); have HB2 := Lib.hid (setMost_below p q r (HBV.out.trans (hb.mono HBV.out.size)) (Nat.le_of_lt HNE.out)); generalize setMost w1 g p q r = W2 at *; obtain ⟨q0, q1, q2, q3, q4, q5, q6, q7, q8, q9, q10, q11, q12, q13, q14, q15⟩ := rowc8 HR2.out; clear hb r0 r1 r2 r3 r4 r5 r6 r7 f0 f1 f2 f3 f4 f5 f6 f7 k3 k4 k5))
        go_region_with (first | (go_at_call 84; (with_reducible refine (HPP.out _ HB2.out.drew).mono ?_); rintro e w3 ⟨rfl, hP⟩; have HP3 := Lib.hid hP; clear hP))
        all_goals go_wp2_with fail
        all_goals go_ret
        all_goals exact ⟨rfl, HP3.out⟩
    | false =>
      rw [if_neg (by simp)] at h2
      cases full with
      | true =>
        obtain ⟨rfl, hPP⟩ := h0.out rfl rfl
        have HPP := Lib.hid hPP
        clear hPP
        go_wp2_with (first | (go_at_call 83; (with_reducible refine (HFL.out _ HBV.out).mono ?_); rintro e w1 ⟨rfl, rfl⟩))
        go_ret
        exact ⟨rfl, HPP.out _ HBV.out⟩
      | false =>
        obtain ⟨s0, s1, s2, s3, s4, s5, s6, s7, st0, _⟩ := rowc8 HRW.out
        obtain ⟨_, i1, _⟩ := rowc7 HCX.out
        have HNG := Lib.hid (show ¬ g = w.heap.size by have := HNE.out; omega)
        go_wp2_with (first | (go_at_call 83; (with_reducible refine (HFL.out _ HBV.out).mono ?_); rintro e w1 ⟨rfl, rfl⟩))
        have HRW0 : Hid ((V.setCell ⟨g, 0, none⟩ (.string cS)).heap[g]? = some (.cells #[.string cS, .int .i64 v_a, .int .i64 v_b, .int .i64 v_c, .int .i64 v_x, .int .i64 v_y, .int .i64 v_z, .int .i64 v_n] 104 (0, 0))) := Lib.hid (by have := Wi.heap_set V g 0 (.string cS) _ _ HRW.out; simpa only [List.setIfInBounds_toArray, List.set_cons_zero, List.set_cons_succ] using this)
        have HCX0 : Hid ((V.setCell ⟨g, 0, none⟩ (.string cS)).heap[w.heap.size]? = some (.cells #[.int .i64 co, .string cS, .string cT, .int .i64 p, .int .i64 q, .int .i64 r, .int .i64 cn] 33 (0, 0))) := Lib.hid ((Below.heap_setCell V ⟨g, 0, none⟩ _ w.heap.size (Nat.ne_of_lt HNE.out)).trans HCX.out)
        have HBV0 : Hid (Below w.heap.size w (V.setCell ⟨g, 0, none⟩ (.string cS))) := Lib.hid (HBV.out.setCell (p := ⟨g, 0, none⟩) (Nat.le_of_lt HNE.out) _)
        generalize V.setCell ⟨g, 0, none⟩ (.string cS) = V0 at *
        clear s0 s1 s2 s3 s4 s5 s6 s7 st0 i1 HRW HCX HBV
        obtain ⟨r0, r1, r2, r3, r4, r5, r6, r7, f0, f1, f2, f3, f4, f5, f6, f7⟩ := rowc8 HRW0.out
        have HRM := Lib.hid (show RmC V0 g v_a v_b v_c v_x v_y v_z v_n from ⟨r1, r2, r3, r4, r5, r6, r7, fun o => Lib.frozen_of_heap HRW0.out o⟩)
        obtain ⟨_, _, _, k3, k4, k5, _⟩ := rowc7 HCX0.out
        cases fit with
        | false =>
          obtain ⟨rfl, hPP⟩ := h1.out (by first | exact .inr rfl | trivial) rfl
          have HPP := Lib.hid hPP
          clear hPP
          go_wp2_with (first | (go_at_call 80; (with_reducible refine (resize_no g v_a v_b v_c v_x v_y v_z v_n p q r _ HRM.out HFT.out).mono ?_); rintro e w1 ⟨rfl, hb⟩))
          go_ret
          exact ⟨rfl, HPP.out _ (HBV0.out.trans (hb.mono HBV0.out.size))⟩
        | true =>
          obtain ⟨rfl, hPP⟩ := h2.out (by first | exact .inr rfl | trivial) rfl
          have HPP := Lib.hid hPP
          clear hPP
          go_wp2_with (first | (go_at_call 80; (with_reducible refine (resize_yes g v_a v_b v_c v_x v_y v_z v_n p q r _ HRM.out HFT.out).mono ?_); rintro e w1' ⟨rfl, w1, hb, rfl⟩; have HR2 := Lib.hid (setMost_row8 p q r ((hb.block g (Array.getElem?_eq_some_iff.1 HRW0.out).1).trans HRW0.out)); have HB2 := Lib.hid (setMost_below p q r (HBV0.out.trans (hb.mono HBV0.out.size)) (Nat.le_of_lt HNE.out)); generalize setMost w1 g p q r = W2 at *; obtain ⟨q0, q1, q2, q3, q4, q5, q6, q7, q8, q9, q10, q11, q12, q13, q14, q15⟩ := rowc8 HR2.out; clear hb r0 r1 r2 r3 r4 r5 r6 r7 f0 f1 f2 f3 f4 f5 f6 f7 k3 k4 k5))
          go_region_with (first | (go_at_call 84; (with_reducible refine (HPP.out _ HB2.out.drew).mono ?_); rintro e w3 ⟨rfl, hP⟩; have HP3 := Lib.hid hP; clear hP))
          all_goals go_wp2_with fail
          all_goals go_ret
          all_goals exact ⟨rfl, HP3.out⟩
  clear hK
  have HZ := Lib.hid (show ((w.alloc (.cells #[.int .i64 co, .string cS, .string cT, .int .i64 p, .int .i64 q, .int .i64 r, .int .i64 cn] 33)).drew.alloc (.cells #[.string ⟨#[]⟩, .int .i64 0, .int .i64 0, .int .i64 0, .int .i64 0, .int .i64 0, .int .i64 0, .int .i64 0] 104)).heap[w.heap.size + 1]? = some (.cells #[.string ⟨#[]⟩, .int .i64 0, .int .i64 0, .int .i64 0, .int .i64 0, .int .i64 0, .int .i64 0, .int .i64 0] 104 (0, 0)) from by have := heap_alloc_new (w.alloc (.cells #[.int .i64 co, .string cS, .string cT, .int .i64 p, .int .i64 q, .int .i64 r, .int .i64 cn] 33)).drew (.cells #[.string ⟨#[]⟩, .int .i64 0, .int .i64 0, .int .i64 0, .int .i64 0, .int .i64 0, .int .i64 0, .int .i64 0] 104); rwa [show (w.alloc (.cells #[.int .i64 co, .string cS, .string cT, .int .i64 p, .int .i64 q, .int .i64 r, .int .i64 cn] 33)).drew.heap.size = w.heap.size + 1 from by simp] at this)
  have HBA := Lib.hid (HB0.out.alloc (by simp) (.cells #[.string ⟨#[]⟩, .int .i64 0, .int .i64 0, .int .i64 0, .int .i64 0, .int .i64 0, .int .i64 0, .int .i64 0] 104)).drew
  go_region_with (first
    | (go_at_call 76; (with_reducible refine (HG.out _ HB0.out.drew).mono ?_); rintro e w1 ⟨rfl, hb⟩; have hb2 := Lib.hid (HB0.out.drew.trans (hb.mono (by simp))); have FB := Lib.hid (HBX.out w1 ((Below.refl _ _).drew.trans hb)))
    | (go_at_call 76; (with_reducible refine (HG.out _ HBA.out).mono ?_); rintro e w1 ⟨rfl, hb⟩; have FR := Lib.hid ((hb.block (w.heap.size + 1) (by simp)).trans HZ.out); obtain ⟨q0, q1, q2, q3, q4, q5, q6, q7, q8, q9, q10, q11, q12, q13, q14, q15⟩ := rowc8 FR.out; have hb2 := Lib.hid (HBA.out.trans (hb.mono (by simp; omega))); have FB := Lib.hid (HBX.out w1 ((((Below.refl _ _).alloc (Nat.le_refl _) (.cells #[.string ⟨#[]⟩, .int .i64 0, .int .i64 0, .int .i64 0, .int .i64 0, .int .i64 0, .int .i64 0, .int .i64 0] 104)).drew).trans (hb.mono (by simp))))))
  all_goals go_simp
  all_goals first
    | exact HKK w1.heap.size _ _ _ _ _ _ _ _ _ _ _ (Lib.hid (heap_alloc_new w1 _)) (Lib.hid ((Below.heap_alloc w1 _ _ (by have := hb2.out.size; have := (Array.getElem?_eq_some_iff.1 FB.out).1; omega)).trans FB.out)) (Lib.hid (by have := hb.size; simp at this; omega)) (Lib.hid (hb2.out.alloc hb2.out.size _))
    | exact HKK (w.heap.size + 1) _ _ _ _ _ _ _ _ _ _ _ (Lib.hid (wr8_row FR.out)) (Lib.hid ((wr8_far (by omega)).trans FB.out)) (Lib.hid (by omega)) (Lib.hid (wr8_below hb2.out (by omega)))
end Go.Proofs.YtphclpjekpdifaaGreat
