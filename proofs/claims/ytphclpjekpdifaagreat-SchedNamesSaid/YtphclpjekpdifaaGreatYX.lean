import Derived.Test.YtphclpjekpdifaaGreatYQ
import Derived.Deep.RegionWith
import Derived.StillTailTactics
namespace Go.Proofs.YtphclpjekpdifaaGreat
set_option maxRecDepth 20000
open Go.RowKit
open PS (Tx putM dropM setM findM Nod Ten Jb kOf St)
open Go.Proofs.YtphclpjekpdifaaGreat.Nm (str)
open Go.Proofs.YtphclpjekpdifaaGreat.Vc (RetBelow fitB I64)
set_option linter.unusedVariables false
set_option maxHeartbeats 4000000 in
theorem refusal_core (b : Nat) (co : Int) (cS cT : ByteArray) (p q r cn : Int) (FJ full FT : Bool) (j_s : ByteArray) (j_t : ByteArray) (j_p : Int) (j_q : Int) (j_r : Int) (j_on : ByteArray) (j_st : Int) (t_s : ByteArray) (t_a : Int) (t_b : Int) (t_c : Int) (t_x : Int) (t_y : Int) (t_z : Int) (t_n : Int) (E R : Int) (w : World)
    (HGJ : Hid (∀ X, Below w.heap.size w X → Calls Tryz.prog 74 #[.pointer (some ⟨b, 2, none⟩), .string cS] X (RetBelow (.tuple #[.agg #[.string j_s, .string j_t, .int .i64 j_p, .int .i64 j_q, .int .i64 j_r, .string j_on, .int .i64 j_st], .bool FJ]) X)))
    (HGT : Hid (∀ X, Below w.heap.size w X → Calls Tryz.prog 76 #[.pointer (some ⟨b, 1, none⟩), .string cT] X (RetBelow (.tuple #[.agg #[.string t_s, .int .i64 t_a, .int .i64 t_b, .int .i64 t_c, .int .i64 t_x, .int .i64 t_y, .int .i64 t_z, .int .i64 t_n], .bool FT]) X)))
    (HFL : Hid (∀ X, Below w.heap.size w X → Calls Tryz.prog 120 #[.pointer (some ⟨b, 2, none⟩), .int .i64 128] X fun e w' => e = .returned (.bool full) ∧ X = w'))
    (h0 : Hid (FJ = true → E = 11)) (h1 : Hid (FJ = false → full = true → E = 3)) (h2 : Hid (FJ = false → full = false → FT = false → E = 10))
    (h3 : Hid (FJ = false → full = false → FT = true → ∀ X, Calls Tryz.prog 121 #[.agg #[.string t_s, .int .i64 t_a, .int .i64 t_b, .int .i64 t_c, .int .i64 t_x, .int .i64 t_y, .int .i64 t_z, .int .i64 t_n], .agg #[.int .i64 p, .int .i64 q, .int .i64 r]] X (RetBelow (.int .i64 E) X))) :
    Calls Tryz.prog 85 #[.pointer (some ⟨b, 0, none⟩), .agg #[.int .i64 co, .string cS, .string cT, .int .i64 p, .int .i64 q, .int .i64 r, .int .i64 cn]] w (RetBelow (.int .i64 E) w) := by
  have HB0 := Lib.hid ((Below.refl w.heap.size w).alloc (Nat.le_refl _) (.cells #[.int .i64 co, .string cS, .string cT, .int .i64 p, .int .i64 q, .int .i64 r, .int .i64 cn] 33))
  have HBX0 := Lib.hid (heap_alloc_new w (.cells #[.int .i64 co, .string cS, .string cT, .int .i64 p, .int .i64 q, .int .i64 r, .int .i64 cn] 33))
  go_enter Tryz.func85, Tryz.ntmps85
  go_wp2_with fail
  have c1 := (rowc7 HBX0.out).2.1
  have HGJ2 : Hid (∀ X, Below (w.alloc (.cells #[.int .i64 co, .string cS, .string cT, .int .i64 p, .int .i64 q, .int .i64 r, .int .i64 cn] 33)).heap.size (w.alloc (.cells #[.int .i64 co, .string cS, .string cT, .int .i64 p, .int .i64 q, .int .i64 r, .int .i64 cn] 33)) X → Calls Tryz.prog 74 #[.pointer (some ⟨b, 2, none⟩), .string cS] X (RetBelow (.tuple #[.agg #[.string j_s, .string j_t, .int .i64 j_p, .int .i64 j_q, .int .i64 j_r, .string j_on, .int .i64 j_st], .bool FJ]) X)) := Lib.hid fun X hX => HGJ.out X (HB0.out.trans (hX.mono HB0.out.size))
  have HBX := Lib.hid (fun V (h : Below (w.alloc (.cells #[.int .i64 co, .string cS, .string cT, .int .i64 p, .int .i64 q, .int .i64 r, .int .i64 cn] 33)).heap.size (w.alloc (.cells #[.int .i64 co, .string cS, .string cT, .int .i64 p, .int .i64 q, .int .i64 r, .int .i64 cn] 33)) V) => (h.block w.heap.size (by simp)).trans HBX0.out)
  have hlt : w.heap.size < (w.alloc (.cells #[.int .i64 co, .string cS, .string cT, .int .i64 p, .int .i64 q, .int .i64 r, .int .i64 cn] 33)).heap.size := by simp
  generalize (w.alloc (.cells #[.int .i64 co, .string cS, .string cT, .int .i64 p, .int .i64 q, .int .i64 r, .int .i64 cn] 33)) = W0 at *
  rename_i KC HK
  have HKK : ∀ (g1 : Nat) (V1 : World) (z2 z7 z8 z9 z10 z11 z12 z13 z14 z15 z16 z17 z18 z19 z20 z21 z22 z23 z24 z25 z26 z27 z28 z29 z30 z31 z32 z33 z34 z35 z36 z37 : Value), Hid (V1.heap[g1]? = some (.cells #[.string j_s, .string j_t, .int .i64 j_p, .int .i64 j_q, .int .i64 j_r, .string j_on, .int .i64 j_st] 46 (0, 0))) → Hid (W0.heap.size ≤ g1) → Hid (Below W0.heap.size W0 V1) → KC { tmps := #[.pointer (some ⟨b, 0, none⟩), .agg #[.int .i64 co, .string cS, .string cT, .int .i64 p, .int .i64 q, .int .i64 r, .int .i64 cn], z2, .pointer (some ⟨w.heap.size, 0, none⟩), .int .i64 0, .pointer (some ⟨g1, 0, none⟩), .bool FJ, z7, z8, z9, z10, z11, z12, z13, z14, z15, z16, z17, z18, z19, z20, z21, z22, z23, z24, z25, z26, z27, z28, z29, z30, z31, z32, z33, z34, z35, z36, z37], defers := [] } V1 := by
    intro g1 V1 z2 z7 z8 z9 z10 z11 z12 z13 z14 z15 z16 z17 z18 z19 z20 z21 z22 z23 z24 z25 z26 z27 z28 z29 z30 z31 z32 z33 z34 z35 z36 z37 HRWg1 HGEg1 HBVg1
    refine HK _ _ ?_
    clear HK
    have HCX := Lib.hid (HBX.out V1 HBVg1.out)
    have HBW := Lib.hid (HB0.out.trans (HBVg1.out.mono HB0.out.size))
    have HGT2 : Hid (∀ X, Below V1.heap.size V1 X → Calls Tryz.prog 76 #[.pointer (some ⟨b, 1, none⟩), .string cT] X (RetBelow (.tuple #[.agg #[.string t_s, .int .i64 t_a, .int .i64 t_b, .int .i64 t_c, .int .i64 t_x, .int .i64 t_y, .int .i64 t_z, .int .i64 t_n], .bool FT]) X)) := Lib.hid fun X hX => HGT.out X (HBW.out.trans (hX.mono HBW.out.size))
    have HCW := HCX
    cases FJ with
    | true =>
      obtain rfl := h0.out (by trivial)
      go_wp2_with fail
      go_ret
      exact ⟨rfl, HBW.out⟩
    | false =>
      obtain ⟨_, _, i2, _⟩ := rowc7 HCX.out
      have hil := (Array.getElem?_eq_some_iff.1 HCX.out).1
      cases full with
      | true =>
        obtain rfl := h1.out (by trivial) (by trivial)
        go_wp2_with (first | (go_at_call 120; (with_reducible refine (HFL.out _ HBW.out).mono ?_); rintro e w1 ⟨rfl, rfl⟩))
        go_ret
        exact ⟨rfl, HBW.out⟩
      | false =>
        go_wp2_with (first | (go_at_call 120; (with_reducible refine (HFL.out _ HBW.out).mono ?_); rintro e w1 ⟨rfl, rfl⟩))
        rename_i KD GK
        have GKK : ∀ (g2 : Nat) (V2 : World) (z2 z5 z6 z9 z10 z11 z12 z13 z14 z15 z16 z17 z18 z19 z20 z21 z22 z23 z24 z25 z26 z27 z28 z29 z30 z31 z32 z33 z34 z35 z36 z37 : Value), Hid (V2.heap[g2]? = some (.cells #[.string t_s, .int .i64 t_a, .int .i64 t_b, .int .i64 t_c, .int .i64 t_x, .int .i64 t_y, .int .i64 t_z, .int .i64 t_n] 104 (0, 0))) → Hid (V1.heap.size ≤ g2) → Hid (Below V1.heap.size V1 V2) → KD { tmps := #[.pointer (some ⟨b, 0, none⟩), .agg #[.int .i64 co, .string cS, .string cT, .int .i64 p, .int .i64 q, .int .i64 r, .int .i64 cn], z2, .pointer (some ⟨w.heap.size, 0, none⟩), .int .i64 0, z5, z6, .pointer (some ⟨g2, 0, none⟩), .bool FT, z9, z10, z11, z12, z13, z14, z15, z16, z17, z18, z19, z20, z21, z22, z23, z24, z25, z26, z27, z28, z29, z30, z31, z32, z33, z34, z35, z36, z37], defers := [] } V2 := by
          intro g2 V2 z2 z5 z6 z9 z10 z11 z12 z13 z14 z15 z16 z17 z18 z19 z20 z21 z22 z23 z24 z25 z26 z27 z28 z29 z30 z31 z32 z33 z34 z35 z36 z37 HRWg2 HGEg2 HBVg2
          refine GK _ _ ?_
          clear GK
          cases FT with
          | false =>
            obtain rfl := h2.out (by trivial) (by trivial) (by trivial)
            go_wp2_with fail
            go_ret
            exact ⟨rfl, HBW.out.trans (HBVg2.out.mono HBW.out.size)⟩
          | true =>
            obtain ⟨t0, t1, t2, t3, t4, t5, t6, t7, _⟩ := rowc8 HRWg2.out
            have HCV := Lib.hid ((HBVg2.out.block _ (Array.getElem?_eq_some_iff.1 HCW.out).1).trans HCW.out)
            obtain ⟨_, _, _, k3, k4, k5, _⟩ := rowc7 HCV.out
            have HBVV := Lib.hid (HBW.out.trans (HBVg2.out.mono HBW.out.size))
            have HR3 := Lib.hid (h3.out (by trivial) (by trivial) (by trivial) V2)
            go_wp2_with (first | (go_at_call 121; (with_reducible refine HR3.out.mono ?_); rintro e w1 ⟨rfl, hb⟩; have hb3 := Lib.hid (HBVV.out.trans (hb.mono HBVV.out.size)); clear hb))
            go_ret
            exact ⟨rfl, hb3.out⟩
        clear GK
        have GZ := Lib.hid (show (V1.drew.alloc (.cells #[.string ⟨#[]⟩, .int .i64 0, .int .i64 0, .int .i64 0, .int .i64 0, .int .i64 0, .int .i64 0, .int .i64 0] 104)).heap[V1.heap.size]? = some (.cells #[.string ⟨#[]⟩, .int .i64 0, .int .i64 0, .int .i64 0, .int .i64 0, .int .i64 0, .int .i64 0, .int .i64 0] 104 (0, 0)) from heap_alloc_new V1.drew (.cells #[.string ⟨#[]⟩, .int .i64 0, .int .i64 0, .int .i64 0, .int .i64 0, .int .i64 0, .int .i64 0, .int .i64 0] 104))
        have GA := Lib.hid ((Below.refl V1.heap.size V1).alloc (Nat.le_refl _) (.cells #[.string ⟨#[]⟩, .int .i64 0, .int .i64 0, .int .i64 0, .int .i64 0, .int .i64 0, .int .i64 0, .int .i64 0] 104)).drew
        have GD := Lib.hid (Below.refl V1.heap.size V1).drew
        go_region_with (first
          | (go_at_call 76; (with_reducible refine (HGT2.out _ GD.out).mono ?_); rintro e w1 ⟨rfl, hb⟩; have hb2 := Lib.hid (GD.out.trans hb))
          | (go_at_call 76; (with_reducible refine (HGT2.out _ GA.out).mono ?_); rintro e w1 ⟨rfl, hb⟩; have FR := Lib.hid ((hb.block V1.heap.size (by simp)).trans GZ.out); obtain ⟨q0, q1, q2, q3, q4, q5, q6, q7, q8, q9, q10, q11, q12, q13, q14, q15⟩ := rowc8 FR.out; have hb2 := Lib.hid (GA.out.trans (hb.mono (by simp)))))
        all_goals go_simp
        all_goals first
          | (with_reducible exact GKK w1.heap.size _ _ _ _ _ _ _ _ _ _ _ _ _ _ _ _ _ _ _ _ _ _ _ _ _ _ _ _ _ _ _ _ _ (Lib.hid (heap_alloc_new w1 _)) (Lib.hid hb2.out.size) (Lib.hid (hb2.out.alloc hb2.out.size _)))
          | exact GKK V1.heap.size _ _ _ _ _ _ _ _ _ _ _ _ _ _ _ _ _ _ _ _ _ _ _ _ _ _ _ _ _ _ _ _ _ (Lib.hid (wr8_row FR.out)) (Lib.hid (Nat.le_refl _)) (Lib.hid (wr8_below hb2.out (Nat.le_refl _)))
  clear HK
  have HZ := Lib.hid (show (W0.drew.alloc (.cells #[.string ⟨#[]⟩, .string ⟨#[]⟩, .int .i64 0, .int .i64 0, .int .i64 0, .string ⟨#[]⟩, .int .i64 0] 46)).heap[W0.heap.size]? = some (.cells #[.string ⟨#[]⟩, .string ⟨#[]⟩, .int .i64 0, .int .i64 0, .int .i64 0, .string ⟨#[]⟩, .int .i64 0] 46 (0, 0)) from heap_alloc_new W0.drew (.cells #[.string ⟨#[]⟩, .string ⟨#[]⟩, .int .i64 0, .int .i64 0, .int .i64 0, .string ⟨#[]⟩, .int .i64 0] 46))
  have HA := Lib.hid ((Below.refl W0.heap.size W0).alloc (Nat.le_refl _) (.cells #[.string ⟨#[]⟩, .string ⟨#[]⟩, .int .i64 0, .int .i64 0, .int .i64 0, .string ⟨#[]⟩, .int .i64 0] 46)).drew
  have HD := Lib.hid (Below.refl W0.heap.size W0).drew
  go_region_with (first
    | (go_at_call 74; (with_reducible refine (HGJ2.out _ HD.out).mono ?_); rintro e w1 ⟨rfl, hb⟩; have hb2 := Lib.hid (HD.out.trans hb))
    | (go_at_call 74; (with_reducible refine (HGJ2.out _ HA.out).mono ?_); rintro e w1 ⟨rfl, hb⟩; have FR := Lib.hid ((hb.block W0.heap.size (by simp)).trans HZ.out); obtain ⟨q0, q1, q2, q3, q4, q5, q6, q7, q8, q9, q10, q11, q12, q13⟩ := rowc7 FR.out; have hb2 := Lib.hid (HA.out.trans (hb.mono (by simp)))))
  all_goals go_simp
  all_goals first
    | (with_reducible exact HKK w1.heap.size _ _ _ _ _ _ _ _ _ _ _ _ _ _ _ _ _ _ _ _ _ _ _ _ _ _ _ _ _ _ _ _ _ (Lib.hid (heap_alloc_new w1 _)) (Lib.hid hb2.out.size) (Lib.hid (hb2.out.alloc hb2.out.size _)))
    | exact HKK W0.heap.size _ _ _ _ _ _ _ _ _ _ _ _ _ _ _ _ _ _ _ _ _ _ _ _ _ _ _ _ _ _ _ _ _ (Lib.hid (wr7_row FR.out)) (Lib.hid (Nat.le_refl _)) (Lib.hid (wr7_below hb2.out (Nat.le_refl _)))
theorem setUsed_row8 {w : World} {g : Nat} {a0 a1 a2 a3 a4 a5 a6 a7 : Value} {t : TypeId} (x y z n : Int) (h : w.heap[g]? = some (.cells #[a0, a1, a2, a3, a4, a5, a6, a7] t (0, 0))) : (setUsed w g x y z n).heap[g]? = some (.cells #[a0, a1, a2, a3, .int .i64 x, .int .i64 y, .int .i64 z, .int .i64 n] t (0, 0)) := by
  have h0 := Wi.heap_set w g 4 (.int .i64 x) _ _ h
  have h1 := Wi.heap_set _ g 5 (.int .i64 y) _ _ h0
  have h2 := Wi.heap_set _ g 6 (.int .i64 z) _ _ h1
  have h3 := Wi.heap_set _ g 7 (.int .i64 n) _ _ h2
  unfold setUsed
  simpa only [List.setIfInBounds_toArray, List.set_cons_zero, List.set_cons_succ] using h3
theorem setUsed_row9 {w : World} {g : Nat} {a0 a1 a2 a3 a4 a5 a6 a7 a8 : Value} {t : TypeId} (x y z n : Int) (h : w.heap[g]? = some (.cells #[a0, a1, a2, a3, a4, a5, a6, a7, a8] t (0, 0))) : (setUsed w g x y z n).heap[g]? = some (.cells #[a0, a1, a2, a3, .int .i64 x, .int .i64 y, .int .i64 z, .int .i64 n, a8] t (0, 0)) := by
  have h0 := Wi.heap_set w g 4 (.int .i64 x) _ _ h
  have h1 := Wi.heap_set _ g 5 (.int .i64 y) _ _ h0
  have h2 := Wi.heap_set _ g 6 (.int .i64 z) _ _ h1
  have h3 := Wi.heap_set _ g 7 (.int .i64 n) _ _ h2
  unfold setUsed
  simpa only [List.setIfInBounds_toArray, List.set_cons_zero, List.set_cons_succ] using h3
theorem setUsed_far {w : World} {g k : Nat} (x y z n : Int) (h : k ≠ g) : (setUsed w g x y z n).heap[k]? = w.heap[k]? :=
  (Below.heap_setCell _ ⟨g, 7, none⟩ _ k h).trans ((Below.heap_setCell _ ⟨g, 6, none⟩ _ k h).trans ((Below.heap_setCell _ ⟨g, 5, none⟩ _ k h).trans (Below.heap_setCell _ ⟨g, 4, none⟩ _ k h)))
theorem setUsed_below {w0 w : World} {B g : Nat} (x y z n : Int) (h : Below B w0 w) (hg : B ≤ g) : Below B w0 (setUsed w g x y z n) := by
  have h0 := h.setCell (p := ⟨g, 4, none⟩) hg (.int .i64 x)
  have h1 := h0.setCell (p := ⟨g, 5, none⟩) hg (.int .i64 y)
  have h2 := h1.setCell (p := ⟨g, 6, none⟩) hg (.int .i64 z)
  have h3 := h2.setCell (p := ⟨g, 7, none⟩) hg (.int .i64 n)
  exact h3
theorem rmc9 {w : World} {g : Nat} {s d : Value} {a b c x y z n : Int} {t : TypeId} (h : w.heap[g]? = some (.cells #[s, .int .i64 a, .int .i64 b, .int .i64 c, .int .i64 x, .int .i64 y, .int .i64 z, .int .i64 n, d] t (0, 0))) : RmC w g a b c x y z n := by
  obtain ⟨r0, r1, r2, r3, r4, r5, r6, r7, _⟩ := rowc9 h
  exact ⟨r1, r2, r3, r4, r5, r6, r7, fun o => Lib.frozen_of_heap h o⟩
set_option maxHeartbeats 8000000 in
theorem create_core (b : Nat) (co : Int) (cS cT : ByteArray) (p q r cn : Int) (FT : Bool) (n_s : ByteArray) (n_a : Int) (n_b : Int) (n_c : Int) (n_x : Int) (n_y : Int) (n_z : Int) (n_n : Int) (n_d : Bool) (t_s : ByteArray) (t_a : Int) (t_b : Int) (t_c : Int) (t_x : Int) (t_y : Int) (t_z : Int) (t_n : Int) (tX tY tZ tN nX nY nZ nN : Int) (R1 R2 R3 : World → World → Prop) (w : World)
    (HGT : Hid (∀ X, Below w.heap.size w X → Calls Tryz.prog 76 #[.pointer (some ⟨b, 1, none⟩), .string cT] X (RetBelow (.tuple #[.agg #[.string t_s, .int .i64 t_a, .int .i64 t_b, .int .i64 t_c, .int .i64 t_x, .int .i64 t_y, .int .i64 t_z, .int .i64 t_n], .bool FT]) X)))
    (HTK : Hid (∀ g W, RmC W g t_a t_b t_c t_x t_y t_z t_n → Calls Tryz.prog 123 #[.pointer (some ⟨g, 1, none⟩), .agg #[.int .i64 p, .int .i64 q, .int .i64 r]] W fun e w' => e = .returned (.tuple #[]) ∧ ∃ w1, Below W.heap.size W w1 ∧ w' = setUsed w1 g tX tY tZ tN))
    (HNK : Hid (∀ g W, RmC W g n_a n_b n_c n_x n_y n_z n_n → Calls Tryz.prog 123 #[.pointer (some ⟨g, 1, none⟩), .agg #[.int .i64 p, .int .i64 q, .int .i64 r]] W fun e w' => e = .returned (.tuple #[]) ∧ ∃ w1, Below W.heap.size W w1 ∧ w' = setUsed w1 g nX nY nZ nN))
    (HP1 : Hid (∀ X0 X, Below w.heap.size w X0 → Below X0.heap.size X0 X → Calls Tryz.prog 84 #[.pointer (some ⟨b, 1, none⟩), .string t_s, .agg #[.string t_s, .int .i64 t_a, .int .i64 t_b, .int .i64 t_c, .int .i64 tX, .int .i64 tY, .int .i64 tZ, .int .i64 tN]] X fun e w' => e = .returned (.tuple #[]) ∧ R1 X0 w'))
    (HP2 : Hid (∀ X0 X1 X, Below w.heap.size w X0 → R1 X0 X1 → Below X1.heap.size X1 X → Calls Tryz.prog 81 #[.pointer (some ⟨b, 0, none⟩), .string n_s, .agg #[.string n_s, .int .i64 n_a, .int .i64 n_b, .int .i64 n_c, .int .i64 nX, .int .i64 nY, .int .i64 nZ, .int .i64 nN, .bool n_d]] X fun e w' => e = .returned (.tuple #[]) ∧ R2 X0 w'))
    (HP3 : Hid (∀ X0 X1 X, Below w.heap.size w X0 → R2 X0 X1 → Below X1.heap.size X1 X → Calls Tryz.prog 91 #[.pointer (some ⟨b, 2, none⟩), .string cS, .agg #[.string cS, .string t_s, .int .i64 p, .int .i64 q, .int .i64 r, .string n_s, .int .i64 0]] X fun e w' => e = .returned (.tuple #[]) ∧ R3 X0 w'))
    (HFr : Hid (∀ X0 X1, (R1 X0 X1 ∨ R2 X0 X1) → (∀ k, w.heap.size ≤ k → k < X0.heap.size → X1.heap[k]? = X0.heap[k]?) ∧ X0.heap.size ≤ X1.heap.size)) :
    Calls Tryz.prog 87 #[.pointer (some ⟨b, 0, none⟩), .agg #[.int .i64 co, .string cS, .string cT, .int .i64 p, .int .i64 q, .int .i64 r, .int .i64 cn], .agg #[.string n_s, .int .i64 n_a, .int .i64 n_b, .int .i64 n_c, .int .i64 n_x, .int .i64 n_y, .int .i64 n_z, .int .i64 n_n, .bool n_d]] w fun e w' => e = .returned (.tuple #[]) ∧ ∃ X0, Below w.heap.size w X0 ∧ R3 X0 w' := by
  have HBW0 := Lib.hid (below_2 w (.cells #[.int .i64 co, .string cS, .string cT, .int .i64 p, .int .i64 q, .int .i64 r, .int .i64 cn] 33) (.cells #[.string n_s, .int .i64 n_a, .int .i64 n_b, .int .i64 n_c, .int .i64 n_x, .int .i64 n_y, .int .i64 n_z, .int .i64 n_n, .bool n_d] 99))
  have HCX0 := Lib.hid (show ((w.alloc (.cells #[.int .i64 co, .string cS, .string cT, .int .i64 p, .int .i64 q, .int .i64 r, .int .i64 cn] 33)).alloc (.cells #[.string n_s, .int .i64 n_a, .int .i64 n_b, .int .i64 n_c, .int .i64 n_x, .int .i64 n_y, .int .i64 n_z, .int .i64 n_n, .bool n_d] 99)).heap[w.heap.size]? = some (.cells #[.int .i64 co, .string cS, .string cT, .int .i64 p, .int .i64 q, .int .i64 r, .int .i64 cn] 33 (0, 0)) from (Below.heap_alloc _ _ _ (by simp)).trans (heap_alloc_new w _))
  have HNX0 := Lib.hid (show ((w.alloc (.cells #[.int .i64 co, .string cS, .string cT, .int .i64 p, .int .i64 q, .int .i64 r, .int .i64 cn] 33)).alloc (.cells #[.string n_s, .int .i64 n_a, .int .i64 n_b, .int .i64 n_c, .int .i64 n_x, .int .i64 n_y, .int .i64 n_z, .int .i64 n_n, .bool n_d] 99)).heap[w.heap.size + 1]? = some (.cells #[.string n_s, .int .i64 n_a, .int .i64 n_b, .int .i64 n_c, .int .i64 n_x, .int .i64 n_y, .int .i64 n_z, .int .i64 n_n, .bool n_d] 99 (0, 0)) from by have := heap_alloc_new (w.alloc (.cells #[.int .i64 co, .string cS, .string cT, .int .i64 p, .int .i64 q, .int .i64 r, .int .i64 cn] 33)) (.cells #[.string n_s, .int .i64 n_a, .int .i64 n_b, .int .i64 n_c, .int .i64 n_x, .int .i64 n_y, .int .i64 n_z, .int .i64 n_n, .bool n_d] 99); rwa [show (w.alloc (.cells #[.int .i64 co, .string cS, .string cT, .int .i64 p, .int .i64 q, .int .i64 r, .int .i64 cn] 33)).heap.size = w.heap.size + 1 from by simp] at this)
  have HBD := Lib.hid (show ∀ W : World, (Instr.build 46 #[(0, .string cS), (1, .string t_s), (2, .agg #[.int .i64 p, .int .i64 q, .int .i64 r]), (3, .string n_s), (4, .int .i64 0)]).run Tryz.prog W = .ok (.agg #[.string cS, .string t_s, .int .i64 p, .int .i64 q, .int .i64 r, .string n_s, .int .i64 0]) W from fun W => run_build W 46 _ _ (by kernel_rfl))
  go_enter Tryz.func87, Tryz.ntmps87
  go_wp2_with fail
  have c2 := (rowc7 HCX0.out).2.2.1
  have HGT2 : Hid (∀ X, Below ((w.alloc (.cells #[.int .i64 co, .string cS, .string cT, .int .i64 p, .int .i64 q, .int .i64 r, .int .i64 cn] 33)).alloc (.cells #[.string n_s, .int .i64 n_a, .int .i64 n_b, .int .i64 n_c, .int .i64 n_x, .int .i64 n_y, .int .i64 n_z, .int .i64 n_n, .bool n_d] 99)).heap.size ((w.alloc (.cells #[.int .i64 co, .string cS, .string cT, .int .i64 p, .int .i64 q, .int .i64 r, .int .i64 cn] 33)).alloc (.cells #[.string n_s, .int .i64 n_a, .int .i64 n_b, .int .i64 n_c, .int .i64 n_x, .int .i64 n_y, .int .i64 n_z, .int .i64 n_n, .bool n_d] 99)) X → Calls Tryz.prog 76 #[.pointer (some ⟨b, 1, none⟩), .string cT] X (RetBelow (.tuple #[.agg #[.string t_s, .int .i64 t_a, .int .i64 t_b, .int .i64 t_c, .int .i64 t_x, .int .i64 t_y, .int .i64 t_z, .int .i64 t_n], .bool FT]) X)) := Lib.hid fun X hX => HGT.out X (HBW0.out.trans (hX.mono HBW0.out.size))
  have hlt : w.heap.size < ((w.alloc (.cells #[.int .i64 co, .string cS, .string cT, .int .i64 p, .int .i64 q, .int .i64 r, .int .i64 cn] 33)).alloc (.cells #[.string n_s, .int .i64 n_a, .int .i64 n_b, .int .i64 n_c, .int .i64 n_x, .int .i64 n_y, .int .i64 n_z, .int .i64 n_n, .bool n_d] 99)).heap.size := by simp; omega
  have HSZ := Lib.hid (show w.heap.size + 2 ≤ ((w.alloc (.cells #[.int .i64 co, .string cS, .string cT, .int .i64 p, .int .i64 q, .int .i64 r, .int .i64 cn] 33)).alloc (.cells #[.string n_s, .int .i64 n_a, .int .i64 n_b, .int .i64 n_c, .int .i64 n_x, .int .i64 n_y, .int .i64 n_z, .int .i64 n_n, .bool n_d] 99)).heap.size from by simp)
  have HBW := HBW0
  have HCX := HCX0
  have HNX := HNX0
  clear HBW0 HCX0 HNX0
  generalize ((w.alloc (.cells #[.int .i64 co, .string cS, .string cT, .int .i64 p, .int .i64 q, .int .i64 r, .int .i64 cn] 33)).alloc (.cells #[.string n_s, .int .i64 n_a, .int .i64 n_b, .int .i64 n_c, .int .i64 n_x, .int .i64 n_y, .int .i64 n_z, .int .i64 n_n, .bool n_d] 99)) = W0 at *
  rename_i KC HK
  have HKK : ∀ (g1 : Nat) (V1 : World) (z3 z8 z9 z10 z11 z12 z13 z14 z15 z16 z17 z18 z19 z20 z21 z22 z23 z24 z25 z26 z27 z28 z29 z30 z31 z32 z33 z34 z35 z36 z37 z38 z39 z40 z41 z42 z43 z44 z45 z46 z47 z48 z49 z50 z51 z52 z53 : Value), Hid (V1.heap[g1]? = some (.cells #[.string t_s, .int .i64 t_a, .int .i64 t_b, .int .i64 t_c, .int .i64 t_x, .int .i64 t_y, .int .i64 t_z, .int .i64 t_n] 104 (0, 0))) → Hid (W0.heap.size ≤ g1) → Hid (Below W0.heap.size W0 V1) → KC { tmps := #[.pointer (some ⟨b, 0, none⟩), .agg #[.int .i64 co, .string cS, .string cT, .int .i64 p, .int .i64 q, .int .i64 r, .int .i64 cn], .agg #[.string n_s, .int .i64 n_a, .int .i64 n_b, .int .i64 n_c, .int .i64 n_x, .int .i64 n_y, .int .i64 n_z, .int .i64 n_n, .bool n_d], z3, .pointer (some ⟨w.heap.size, 0, none⟩), .pointer (some ⟨w.heap.size + 1, 0, none⟩), .pointer (some ⟨g1, 0, none⟩), .bool FT, z8, z9, z10, z11, z12, z13, z14, z15, z16, z17, z18, z19, z20, z21, z22, z23, z24, z25, z26, z27, z28, z29, z30, z31, z32, z33, z34, z35, z36, z37, z38, z39, z40, z41, z42, z43, z44, z45, z46, z47, z48, z49, z50, z51, z52, z53], defers := [] } V1 := by
    intro g1 V1 z3 z8 z9 z10 z11 z12 z13 z14 z15 z16 z17 z18 z19 z20 z21 z22 z23 z24 z25 z26 z27 z28 z29 z30 z31 z32 z33 z34 z35 z36 z37 z38 z39 z40 z41 z42 z43 z44 z45 z46 z47 z48 z49 z50 z51 z52 z53 HRWg1 HGEg1 HBVg1
    refine HK _ _ ?_
    clear HK
    have HB1 := Lib.hid (HBW.out.trans (HBVg1.out.mono HBW.out.size))
    have HC1 := Lib.hid ((HBVg1.out.block _ (Array.getElem?_eq_some_iff.1 HCX.out).1).trans HCX.out)
    have HN1 := Lib.hid ((HBVg1.out.block _ (Array.getElem?_eq_some_iff.1 HNX.out).1).trans HNX.out)
    have hg1 : w.heap.size + 2 ≤ g1 := by have := HGEg1.out; have := HSZ.out; omega
    have HG1 := Lib.hid hg1
    clear hg1
    have HRM := Lib.hid (show RmC V1 g1 t_a t_b t_c t_x t_y t_z t_n from by
      obtain ⟨r0, r1, r2, r3, r4, r5, r6, r7, _⟩ := rowc8 HRWg1.out
      exact ⟨r1, r2, r3, r4, r5, r6, r7, fun o => Lib.frozen_of_heap HRWg1.out o⟩)
    obtain ⟨_, _, _, k3, k4, k5, _⟩ := rowc7 HC1.out
    go_wp2_with (first | (go_at_call 123; (with_reducible refine (HTK.out g1 _ HRM.out).mono ?_); rintro e w1' ⟨rfl, w1, hb, rfl⟩; have HB2 := Lib.hid (setUsed_below tX tY tZ tN (HB1.out.trans (hb.mono HB1.out.size)) (show w.heap.size ≤ g1 by have := HG1.out; omega)); have HR2 := Lib.hid (setUsed_row8 tX tY tZ tN ((hb.block g1 (Array.getElem?_eq_some_iff.1 HRWg1.out).1).trans HRWg1.out)); have HC2 := Lib.hid ((setUsed_far (g := g1) tX tY tZ tN (show w.heap.size ≠ g1 by have := HG1.out; omega)).trans ((hb.block _ (Array.getElem?_eq_some_iff.1 HC1.out).1).trans HC1.out)); have HN2 := Lib.hid ((setUsed_far (g := g1) tX tY tZ tN (show w.heap.size + 1 ≠ g1 by have := HG1.out; omega)).trans ((hb.block _ (Array.getElem?_eq_some_iff.1 HN1.out).1).trans HN1.out)); generalize setUsed w1 g1 tX tY tZ tN = W2 at *; clear hb k3 k4 k5; obtain ⟨_, _, _, k3, k4, k5, _⟩ := rowc7 HC2.out; have HRN := Lib.hid (show RmC W2 (w.heap.size + 1) n_a n_b n_c n_x n_y n_z n_n from rmc9 HN2.out)) | (go_at_call 123; (with_reducible refine (HNK.out (w.heap.size + 1) _ HRN.out).mono ?_); rintro e w1' ⟨rfl, w1, hb, rfl⟩; have HB3 := Lib.hid (setUsed_below nX nY nZ nN (HB2.out.trans (hb.mono HB2.out.size)) (show w.heap.size ≤ w.heap.size + 1 by omega)); have HN3 := Lib.hid (setUsed_row9 nX nY nZ nN ((hb.block (w.heap.size + 1) (Array.getElem?_eq_some_iff.1 HN2.out).1).trans HN2.out)); have HC3 := Lib.hid ((setUsed_far (g := w.heap.size + 1) nX nY nZ nN (show w.heap.size ≠ w.heap.size + 1 by omega)).trans ((hb.block _ (Array.getElem?_eq_some_iff.1 HC2.out).1).trans HC2.out)); have HR3 := Lib.hid ((setUsed_far (g := w.heap.size + 1) nX nY nZ nN (show g1 ≠ w.heap.size + 1 by have := HG1.out; omega)).trans ((hb.block _ (Array.getElem?_eq_some_iff.1 HR2.out).1).trans HR2.out)); generalize setUsed w1 (w.heap.size + 1) nX nY nZ nN = W3 at *; clear hb k3 k4 k5))
    obtain ⟨q0, q1, q2, q3, q4, q5, q6, q7, q8, q9, q10, q11, q12, q13, q14, q15⟩ := rowc8 HR3.out
    go_still_tail 6, (by kernel_rfl)
    change wpList _ _ _ _ _ W3.drew
    go_wp2_with (first | (go_at_call 84; (with_reducible refine (HP1.out W3 _ HB3.out (Below.refl _ _).drew).mono ?_); rintro e X1 ⟨rfl, hP⟩; have HQ1 := Lib.hid hP; clear hP; clear q0 q1 q2 q3 q4 q5 q6 q7 q8 q9 q10 q11 q12 q13 q14 q15; have HE1 := Lib.hid (HFr.out W3 X1 (.inl HQ1.out)); have HN4 := Lib.hid ((HE1.out.1 (w.heap.size + 1) (by omega) (Array.getElem?_eq_some_iff.1 HN3.out).1).trans HN3.out); obtain ⟨r0, r1, r2, r3, r4, r5, r6, r7, r8, r9, r10, r11, r12, r13, r14, r15, r16, r17⟩ := rowc9 HN4.out))
    go_still_tail 6, (by kernel_rfl)
    change wpList _ _ _ _ _ X1.drew
    have hbd := HBD.out
    go_wp2_with (first | (go_at_call 81; (with_reducible refine (HP2.out W3 X1 _ HB3.out HQ1.out (Below.refl _ _).drew).mono ?_); rintro e X2 ⟨rfl, hP⟩; have HQ2 := Lib.hid hP; clear hP; clear r0 r1 r2 r3 r4 r5 r6 r7 r8 r9 r10 r11 r12 r13 r14 r15 r16 r17; have HE2 := Lib.hid (HFr.out W3 X2 (.inr HQ2.out)); have HN5 := Lib.hid ((HE2.out.1 (w.heap.size + 1) (by omega) (Array.getElem?_eq_some_iff.1 HN3.out).1).trans HN3.out); have HC5 := Lib.hid ((HE2.out.1 w.heap.size (by omega) (Array.getElem?_eq_some_iff.1 HC3.out).1).trans HC3.out); have HR5 := Lib.hid ((HE2.out.1 g1 (by have := HG1.out; omega) (Array.getElem?_eq_some_iff.1 HR3.out).1).trans HR3.out); obtain ⟨r0, _⟩ := rowc9 HN5.out; obtain ⟨_, i1, _, i3, i4, i5, _⟩ := rowc7 HC5.out; obtain ⟨s0, _⟩ := rowc8 HR5.out))
    go_still_tail 14, (by kernel_rfl)
    change wpList _ _ _ _ _ X2.drew
    go_wp2_with (first | (go_at_call 91; (with_reducible refine (HP3.out W3 X2 _ HB3.out HQ2.out (Below.refl _ _).drew).mono ?_); rintro e X3 ⟨rfl, hP⟩; have HQ3 := Lib.hid hP; clear hP))
    go_end0
    exact ⟨rfl, W3, HB3.out, HQ3.out⟩
  clear HK
  have HZ := Lib.hid (show (W0.drew.alloc (.cells #[.string ⟨#[]⟩, .int .i64 0, .int .i64 0, .int .i64 0, .int .i64 0, .int .i64 0, .int .i64 0, .int .i64 0] 104)).heap[W0.heap.size]? = some (.cells #[.string ⟨#[]⟩, .int .i64 0, .int .i64 0, .int .i64 0, .int .i64 0, .int .i64 0, .int .i64 0, .int .i64 0] 104 (0, 0)) from heap_alloc_new W0.drew (.cells #[.string ⟨#[]⟩, .int .i64 0, .int .i64 0, .int .i64 0, .int .i64 0, .int .i64 0, .int .i64 0, .int .i64 0] 104))
  have HA := Lib.hid ((Below.refl W0.heap.size W0).alloc (Nat.le_refl _) (.cells #[.string ⟨#[]⟩, .int .i64 0, .int .i64 0, .int .i64 0, .int .i64 0, .int .i64 0, .int .i64 0, .int .i64 0] 104)).drew
  have HD := Lib.hid (Below.refl W0.heap.size W0).drew
  go_region_with (first
    | (go_at_call 76; (with_reducible refine (HGT2.out _ HD.out).mono ?_); rintro e w1 ⟨rfl, hb⟩; have hb2 := Lib.hid (HD.out.trans hb))
    | (go_at_call 76; (with_reducible refine (HGT2.out _ HA.out).mono ?_); rintro e w1 ⟨rfl, hb⟩; have FR := Lib.hid ((hb.block W0.heap.size (by simp)).trans HZ.out); obtain ⟨q0, q1, q2, q3, q4, q5, q6, q7, q8, q9, q10, q11, q12, q13, q14, q15⟩ := rowc8 FR.out; have hb2 := Lib.hid (HA.out.trans (hb.mono (by simp)))))
  all_goals go_simp
  all_goals first
    | (with_reducible exact HKK w1.heap.size _ _ _ _ _ _ _ _ _ _ _ _ _ _ _ _ _ _ _ _ _ _ _ _ _ _ _ _ _ _ _ _ _ _ _ _ _ _ _ _ _ _ _ _ _ _ _ _ (Lib.hid (heap_alloc_new w1 _)) (Lib.hid hb2.out.size) (Lib.hid (hb2.out.alloc hb2.out.size _)))
    | exact HKK W0.heap.size _ _ _ _ _ _ _ _ _ _ _ _ _ _ _ _ _ _ _ _ _ _ _ _ _ _ _ _ _ _ _ _ _ _ _ _ _ _ _ _ _ _ _ _ _ _ _ _ (Lib.hid (wr8_row FR.out)) (Lib.hid (Nat.le_refl _)) (Lib.hid (wr8_below hb2.out (Nat.le_refl _)))
end Go.Proofs.YtphclpjekpdifaaGreat
