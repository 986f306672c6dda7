import Derived.Test.YtphclpjekpdifaaGreatYQ
import Derived.Test.YtphclpjekpdifaaGreatYY
import Derived.Deep.RegionWith
namespace Go.Proofs.YtphclpjekpdifaaGreat
set_option maxRecDepth 20000
open Go.RowKit
open PS (Tx putM dropM setM findM Nod Ten Jb kOf St)
open Go.Proofs.YtphclpjekpdifaaGreat.Nm (str)
open Go.Proofs.YtphclpjekpdifaaGreat.Vc (RetBelow fitB I64)
set_option linter.unusedVariables false
def AskP (F : Bool) (v : Value) (w : World) (e : Ending) (w' : World) : Prop :=
  (F = true ∧ e = .returned v ∧ Below w.heap.size w w') ∨ (F = false ∧ e = .returned (rpC 10 ⟨#[]⟩) ∧ Below w.heap.size w w')
set_option maxHeartbeats 4000000 in
theorem ask_no (b : Nat) (co : Int) (cS cT : ByteArray) (p q r cn : Int) (w : World)
    (HAS : Hid (∀ X, Below w.heap.size w X → Calls Tryz.prog 73 #[.agg #[.int .i64 co, .string cS, .string cT, .int .i64 p, .int .i64 q, .int .i64 r, .int .i64 cn]] X (RetBelow (.bool false) X))) :
    Calls Tryz.prog 35 #[.pointer (some ⟨b, 0, none⟩), .agg #[.int .i64 co, .string cS, .string cT, .int .i64 p, .int .i64 q, .int .i64 r, .int .i64 cn]] w (RetBelow (rpC 4 ⟨#[]⟩) w) := by
  have HBW0 := Lib.hid (below_2 w (.cells #[.int .i64 co, .string cS, .string cT, .int .i64 p, .int .i64 q, .int .i64 r, .int .i64 cn] 33) (.cells #[.int .i64 0, .string ⟨#[]⟩, .int .i64 0, .int .i64 0, .int .i64 0, .int .i64 0] 30))
  have HCX0 := Lib.hid (show ((w.alloc (.cells #[.int .i64 co, .string cS, .string cT, .int .i64 p, .int .i64 q, .int .i64 r, .int .i64 cn] 33)).alloc (.cells #[.int .i64 0, .string ⟨#[]⟩, .int .i64 0, .int .i64 0, .int .i64 0, .int .i64 0] 30)).heap[w.heap.size]? = some (.cells #[.int .i64 co, .string cS, .string cT, .int .i64 p, .int .i64 q, .int .i64 r, .int .i64 cn] 33 (0, 0)) from (Below.heap_alloc _ _ _ (by simp)).trans (heap_alloc_new w _))
  have HRX0 := Lib.hid (show ((w.alloc (.cells #[.int .i64 co, .string cS, .string cT, .int .i64 p, .int .i64 q, .int .i64 r, .int .i64 cn] 33)).alloc (.cells #[.int .i64 0, .string ⟨#[]⟩, .int .i64 0, .int .i64 0, .int .i64 0, .int .i64 0] 30)).heap[w.heap.size + 1]? = some (.cells #[.int .i64 0, .string ⟨#[]⟩, .int .i64 0, .int .i64 0, .int .i64 0, .int .i64 0] 30 (0, 0)) from by have := heap_alloc_new (w.alloc (.cells #[.int .i64 co, .string cS, .string cT, .int .i64 p, .int .i64 q, .int .i64 r, .int .i64 cn] 33)) (.cells #[.int .i64 0, .string ⟨#[]⟩, .int .i64 0, .int .i64 0, .int .i64 0, .int .i64 0] 30); rwa [show (w.alloc (.cells #[.int .i64 co, .string cS, .string cT, .int .i64 p, .int .i64 q, .int .i64 r, .int .i64 cn] 33)).heap.size = w.heap.size + 1 from by simp] at this)
  obtain ⟨p0, p1, p2, p3, p4, p5, p6, _⟩ := rowc7 HCX0.out
  have hbd : ∀ W : World, (Instr.build 30 #[(0, .int .i64 4)]).run Tryz.prog W = .ok (.agg #[.int .i64 4, .string ⟨#[]⟩, .int .i64 0, .int .i64 0, .int .i64 0, .int .i64 0]) W := fun W => run_build W 30 _ _ (by kernel_rfl)
  go_enter Tryz.func35, Tryz.ntmps35
  go_wp2_with (first | (go_at_call 73; (with_reducible refine (HAS.out _ HBW0.out).mono ?_); rintro e W0 ⟨rfl, hb1⟩; have HBW := Lib.hid (HBW0.out.trans (hb1.mono HBW0.out.size)); have HCX := Lib.hid ((hb1.block w.heap.size (by simp; omega)).trans HCX0.out); have HRX := Lib.hid ((hb1.block (w.heap.size + 1) (by simp)).trans HRX0.out); clear hb1 p0 p1 p2 p3 p4 p5 p6; obtain ⟨p0, p1, p2, p3, p4, p5, p6, _⟩ := rowc7 HCX.out; obtain ⟨x0, x1, x2, x3, x4, x5, f0, f1, f2, f3, f4, f5⟩ := rowc6 HRX.out))
  refine (show bodyPost Tryz.prog Tryz.f35 _ Exit.ret _ (wr6 W0 (w.heap.size + 1) (.int .i64 4) (.string ⟨#[]⟩) (.int .i64 0) (.int .i64 0) (.int .i64 0) (.int .i64 0)) from ?_)
  have R := wr6_row (a0 := .int .i64 4) (a1 := .string ⟨#[]⟩) (a2 := .int .i64 0) (a3 := .int .i64 0) (a4 := .int .i64 0) (a5 := .int .i64 0) HRX.out
  have FF := wr6_fr W0 (w.heap.size + 1) (.int .i64 4) (.string ⟨#[]⟩) (.int .i64 0) (.int .i64 0) (.int .i64 0) (.int .i64 0)
  generalize wr6 W0 (w.heap.size + 1) (.int .i64 4) (.string ⟨#[]⟩) (.int .i64 0) (.int .i64 0) (.int .i64 0) (.int .i64 0) = W at *
  obtain ⟨y0, y1, y2, y3, y4, y5, _⟩ := rowc6 R
  refine bodyPost_ret (v := .agg #[.int .i64 4, .string ⟨#[]⟩, .int .i64 0, .int .i64 0, .int .i64 0, .int .i64 0]) (by simp [results, Tryz.results35, go_sem, y0, y1, y2, y3, y4, y5]) rfl ⟨rfl, HBW.out.trans (FF.below HBW.out.size (fun k e => by omega))⟩
set_option maxHeartbeats 4000000 in
theorem ask_8 (b : Nat) (cS cT : ByteArray) (p q r cn : Int) (F : Bool) (j_s : ByteArray) (j_t : ByteArray) (j_p : Int) (j_q : Int) (j_r : Int) (j_on : ByteArray) (j_st : Int) (w : World)
    (HAS : Hid (∀ X, Below w.heap.size w X → Calls Tryz.prog 73 #[.agg #[.int .i64 8, .string cS, .string cT, .int .i64 p, .int .i64 q, .int .i64 r, .int .i64 cn]] X (RetBelow (.bool true) X)))
    (HG : Hid (∀ X, Below w.heap.size w X → Calls Tryz.prog 74 #[.pointer (some ⟨b, 2, none⟩), .string cS] X (RetBelow (.tuple #[.agg #[.string j_s, .string j_t, .int .i64 j_p, .int .i64 j_q, .int .i64 j_r, .string j_on, .int .i64 j_st], .bool F]) X))) :
    Calls Tryz.prog 35 #[.pointer (some ⟨b, 0, none⟩), .agg #[.int .i64 8, .string cS, .string cT, .int .i64 p, .int .i64 q, .int .i64 r, .int .i64 cn]] w (AskP F (.agg #[.int .i64 0, .string j_on, .int .i64 j_p, .int .i64 j_q, .int .i64 j_r, .int .i64 j_st]) w) := by
  have HBW0 := Lib.hid (below_2 w (.cells #[.int .i64 8, .string cS, .string cT, .int .i64 p, .int .i64 q, .int .i64 r, .int .i64 cn] 33) (.cells #[.int .i64 0, .string ⟨#[]⟩, .int .i64 0, .int .i64 0, .int .i64 0, .int .i64 0] 30))
  have HCX0 := Lib.hid (show ((w.alloc (.cells #[.int .i64 8, .string cS, .string cT, .int .i64 p, .int .i64 q, .int .i64 r, .int .i64 cn] 33)).alloc (.cells #[.int .i64 0, .string ⟨#[]⟩, .int .i64 0, .int .i64 0, .int .i64 0, .int .i64 0] 30)).heap[w.heap.size]? = some (.cells #[.int .i64 8, .string cS, .string cT, .int .i64 p, .int .i64 q, .int .i64 r, .int .i64 cn] 33 (0, 0)) from (Below.heap_alloc _ _ _ (by simp)).trans (heap_alloc_new w _))
  have HRX0 := Lib.hid (show ((w.alloc (.cells #[.int .i64 8, .string cS, .string cT, .int .i64 p, .int .i64 q, .int .i64 r, .int .i64 cn] 33)).alloc (.cells #[.int .i64 0, .string ⟨#[]⟩, .int .i64 0, .int .i64 0, .int .i64 0, .int .i64 0] 30)).heap[w.heap.size + 1]? = some (.cells #[.int .i64 0, .string ⟨#[]⟩, .int .i64 0, .int .i64 0, .int .i64 0, .int .i64 0] 30 (0, 0)) from by have := heap_alloc_new (w.alloc (.cells #[.int .i64 8, .string cS, .string cT, .int .i64 p, .int .i64 q, .int .i64 r, .int .i64 cn] 33)) (.cells #[.int .i64 0, .string ⟨#[]⟩, .int .i64 0, .int .i64 0, .int .i64 0, .int .i64 0] 30); rwa [show (w.alloc (.cells #[.int .i64 8, .string cS, .string cT, .int .i64 p, .int .i64 q, .int .i64 r, .int .i64 cn] 33)).heap.size = w.heap.size + 1 from by simp] at this)
  obtain ⟨p0, p1, p2, p3, p4, p5, p6, _⟩ := rowc7 HCX0.out
  go_enter Tryz.func35, Tryz.ntmps35
  go_wp2_with (first | (go_at_call 73; (with_reducible refine (HAS.out _ HBW0.out).mono ?_); rintro e W0 ⟨rfl, hb1⟩; have HBW := Lib.hid (HBW0.out.trans (hb1.mono HBW0.out.size)); have HCX := Lib.hid ((hb1.block w.heap.size (by simp; omega)).trans HCX0.out); have HRX := Lib.hid ((hb1.block (w.heap.size + 1) (by simp)).trans HRX0.out); clear hb1 p0 p1 p2 p3 p4 p5 p6; obtain ⟨p0, p1, p2, p3, p4, p5, p6, _⟩ := rowc7 HCX.out; obtain ⟨x0, x1, x2, x3, x4, x5, f0, f1, f2, f3, f4, f5⟩ := rowc6 HRX.out))
  have HG2 : Hid (∀ X, Below W0.heap.size W0 X → Calls Tryz.prog 74 #[.pointer (some ⟨b, 2, none⟩), .string cS] X (RetBelow (.tuple #[.agg #[.string j_s, .string j_t, .int .i64 j_p, .int .i64 j_q, .int .i64 j_r, .string j_on, .int .i64 j_st], .bool F]) X)) := Lib.hid fun X hX => HG.out X (HBW.out.trans (hX.mono HBW.out.size))
  have hlt : w.heap.size < W0.heap.size := (Array.getElem?_eq_some_iff.1 HCX.out).1
  rename_i KC HK
  have HKK : ∀ (g1 : Nat) (V1 : World) (z2 z7 z8 z9 z10 z11 z12 z13 z14 z15 z16 z17 z18 z20 z21 z22 z23 z24 z25 z26 z27 z28 z29 z30 z31 z32 z33 z34 z35 z36 z37 z38 z39 z40 z41 z42 z43 z44 z45 z46 z47 z48 z49 z50 z51 z52 z53 z54 z55 z56 z57 z58 z59 z60 z61 z62 z63 z64 z65 z66 z67 z68 z69 z70 z71 z72 z73 z74 z75 z76 z77 : Value), Hid (V1.heap[g1]? = some (.cells #[.string j_s, .string j_t, .int .i64 j_p, .int .i64 j_q, .int .i64 j_r, .string j_on, .int .i64 j_st] 46 (0, 0))) → Hid (W0.heap.size ≤ g1) → Hid (Below W0.heap.size W0 V1) → KC { tmps := #[.pointer (some ⟨b, 0, none⟩), .agg #[.int .i64 8, .string cS, .string cT, .int .i64 p, .int .i64 q, .int .i64 r, .int .i64 cn], z2, .pointer (some ⟨w.heap.size, 0, none⟩), .pointer (some ⟨w.heap.size + 1, 0, none⟩), .pointer (some ⟨g1, 0, none⟩), .bool F, z7, z8, z9, z10, z11, z12, z13, z14, z15, z16, z17, z18, .int .i64 8, z20, z21, z22, z23, z24, z25, z26, z27, z28, z29, z30, z31, z32, z33, z34, z35, z36, z37, z38, z39, z40, z41, z42, z43, z44, z45, z46, z47, z48, z49, z50, z51, z52, z53, z54, z55, z56, z57, z58, z59, z60, z61, z62, z63, z64, z65, z66, z67, z68, z69, z70, z71, z72, z73, z74, z75, z76, z77], defers := [] } V1 := by
    intro g1 V1 z2 z7 z8 z9 z10 z11 z12 z13 z14 z15 z16 z17 z18 z20 z21 z22 z23 z24 z25 z26 z27 z28 z29 z30 z31 z32 z33 z34 z35 z36 z37 z38 z39 z40 z41 z42 z43 z44 z45 z46 z47 z48 z49 z50 z51 z52 z53 z54 z55 z56 z57 z58 z59 z60 z61 z62 z63 z64 z65 z66 z67 z68 z69 z70 z71 z72 z73 z74 z75 z76 z77 HRWg1 HGEg1 HBVg1
    refine HK _ _ ?_
    clear HK
    have HB1 := Lib.hid (HBW.out.trans (HBVg1.out.mono HBW.out.size))
    have HR1 := Lib.hid ((HBVg1.out.block _ (Array.getElem?_eq_some_iff.1 HRX.out).1).trans HRX.out)
    obtain ⟨x0, x1, x2, x3, x4, x5, f0, f1, f2, f3, f4, f5⟩ := rowc6 HR1.out
    cases F with
    | true =>
      obtain ⟨q0, q1, q2, q3, q4, q5, q6, _⟩ := rowc7 HRWg1.out
      have hbd : ∀ W : World, (Instr.build 30 #[(1, .string j_on), (2, .agg #[.int .i64 j_p, .int .i64 j_q, .int .i64 j_r]), (3, .int .i64 j_st)]).run Tryz.prog W = .ok (.agg #[.int .i64 0, .string j_on, .int .i64 j_p, .int .i64 j_q, .int .i64 j_r, .int .i64 j_st]) W := fun W => run_build W 30 _ _ (by kernel_rfl)
      go_wp2_with fail
      refine (show bodyPost Tryz.prog Tryz.f35 _ Exit.ret _ (wr6 V1 (w.heap.size + 1) (.int .i64 0) (.string j_on) (.int .i64 j_p) (.int .i64 j_q) (.int .i64 j_r) (.int .i64 j_st)) from ?_)
      have R := wr6_row (a0 := .int .i64 0) (a1 := .string j_on) (a2 := .int .i64 j_p) (a3 := .int .i64 j_q) (a4 := .int .i64 j_r) (a5 := .int .i64 j_st) HR1.out
      have FF := wr6_fr V1 (w.heap.size + 1) (.int .i64 0) (.string j_on) (.int .i64 j_p) (.int .i64 j_q) (.int .i64 j_r) (.int .i64 j_st)
      generalize wr6 V1 (w.heap.size + 1) (.int .i64 0) (.string j_on) (.int .i64 j_p) (.int .i64 j_q) (.int .i64 j_r) (.int .i64 j_st) = W at *
      obtain ⟨y0, y1, y2, y3, y4, y5, _⟩ := rowc6 R
      refine bodyPost_ret (v := .agg #[.int .i64 0, .string j_on, .int .i64 j_p, .int .i64 j_q, .int .i64 j_r, .int .i64 j_st]) (by simp [results, Tryz.results35, go_sem, y0, y1, y2, y3, y4, y5]) rfl (.inl ⟨rfl, rfl, HB1.out.trans (FF.below HB1.out.size (fun k e => by omega))⟩)
    | false =>
      have hbd : ∀ W : World, (Instr.build 30 #[(0, .int .i64 10)]).run Tryz.prog W = .ok (.agg #[.int .i64 10, .string ⟨#[]⟩, .int .i64 0, .int .i64 0, .int .i64 0, .int .i64 0]) W := fun W => run_build W 30 _ _ (by kernel_rfl)
      go_wp2_with fail
      refine (show bodyPost Tryz.prog Tryz.f35 _ Exit.ret _ (wr6 V1 (w.heap.size + 1) (.int .i64 10) (.string ⟨#[]⟩) (.int .i64 0) (.int .i64 0) (.int .i64 0) (.int .i64 0)) from ?_)
      have R := wr6_row (a0 := .int .i64 10) (a1 := .string ⟨#[]⟩) (a2 := .int .i64 0) (a3 := .int .i64 0) (a4 := .int .i64 0) (a5 := .int .i64 0) HR1.out
      have FF := wr6_fr V1 (w.heap.size + 1) (.int .i64 10) (.string ⟨#[]⟩) (.int .i64 0) (.int .i64 0) (.int .i64 0) (.int .i64 0)
      generalize wr6 V1 (w.heap.size + 1) (.int .i64 10) (.string ⟨#[]⟩) (.int .i64 0) (.int .i64 0) (.int .i64 0) (.int .i64 0) = W at *
      obtain ⟨y0, y1, y2, y3, y4, y5, _⟩ := rowc6 R
      refine bodyPost_ret (v := .agg #[.int .i64 10, .string ⟨#[]⟩, .int .i64 0, .int .i64 0, .int .i64 0, .int .i64 0]) (by simp [results, Tryz.results35, go_sem, y0, y1, y2, y3, y4, y5]) rfl (.inr ⟨rfl, rfl, HB1.out.trans (FF.below HB1.out.size (fun k e => by omega))⟩)
  clear HK
  have HZ := Lib.hid (show (W0.drew.alloc (.cells #[.string ⟨#[]⟩, .string ⟨#[]⟩, .int .i64 0, .int .i64 0, .int .i64 0, .string ⟨#[]⟩, .int .i64 0] 46)).heap[W0.heap.size]? = some (.cells #[.string ⟨#[]⟩, .string ⟨#[]⟩, .int .i64 0, .int .i64 0, .int .i64 0, .string ⟨#[]⟩, .int .i64 0] 46 (0, 0)) from heap_alloc_new W0.drew (.cells #[.string ⟨#[]⟩, .string ⟨#[]⟩, .int .i64 0, .int .i64 0, .int .i64 0, .string ⟨#[]⟩, .int .i64 0] 46))
  have HA := Lib.hid ((Below.refl W0.heap.size W0).alloc (Nat.le_refl _) (.cells #[.string ⟨#[]⟩, .string ⟨#[]⟩, .int .i64 0, .int .i64 0, .int .i64 0, .string ⟨#[]⟩, .int .i64 0] 46)).drew
  have HD := Lib.hid (Below.refl W0.heap.size W0).drew
  go_region_with (first
    | (go_at_call 74; (with_reducible refine (HG2.out _ HD.out).mono ?_); rintro e w1 ⟨rfl, hb⟩; have hb2 := Lib.hid (HD.out.trans hb))
    | (go_at_call 74; (with_reducible refine (HG2.out _ HA.out).mono ?_); rintro e w1 ⟨rfl, hb⟩; have FR := Lib.hid ((hb.block W0.heap.size (by simp)).trans HZ.out); obtain ⟨q0, q1, q2, q3, q4, q5, q6, q7, q8, q9, q10, q11, q12, q13⟩ := rowc7 FR.out; have hb2 := Lib.hid (HA.out.trans (hb.mono (by simp)))))
  all_goals go_simp
  all_goals first
    | (with_reducible exact HKK w1.heap.size _ _ _ _ _ _ _ _ _ _ _ _ _ _ _ _ _ _ _ _ _ _ _ _ _ _ _ _ _ _ _ _ _ _ _ _ _ _ _ _ _ _ _ _ _ _ _ _ _ _ _ _ _ _ _ _ _ _ _ _ _ _ _ _ _ _ _ _ _ _ _ _ (Lib.hid (heap_alloc_new w1 _)) (Lib.hid hb2.out.size) (Lib.hid (hb2.out.alloc hb2.out.size _)))
    | exact HKK W0.heap.size _ _ _ _ _ _ _ _ _ _ _ _ _ _ _ _ _ _ _ _ _ _ _ _ _ _ _ _ _ _ _ _ _ _ _ _ _ _ _ _ _ _ _ _ _ _ _ _ _ _ _ _ _ _ _ _ _ _ _ _ _ _ _ _ _ _ _ _ _ _ _ _ (Lib.hid (wr7_row FR.out)) (Lib.hid (Nat.le_refl _)) (Lib.hid (wr7_below hb2.out (Nat.le_refl _)))
set_option maxHeartbeats 4000000 in
theorem ask_9 (b : Nat) (cS cT : ByteArray) (p q r cn : Int) (F : Bool) (n_s : ByteArray) (n_a : Int) (n_b : Int) (n_c : Int) (n_x : Int) (n_y : Int) (n_z : Int) (n_n : Int) (n_d : Bool) (w : World)
    (HAS : Hid (∀ X, Below w.heap.size w X → Calls Tryz.prog 73 #[.agg #[.int .i64 9, .string cS, .string cT, .int .i64 p, .int .i64 q, .int .i64 r, .int .i64 cn]] X (RetBelow (.bool true) X)))
    (HG : Hid (∀ X, Below w.heap.size w X → Calls Tryz.prog 75 #[.pointer (some ⟨b, 0, none⟩), .string cS] X (RetBelow (.tuple #[.agg #[.string n_s, .int .i64 n_a, .int .i64 n_b, .int .i64 n_c, .int .i64 n_x, .int .i64 n_y, .int .i64 n_z, .int .i64 n_n, .bool n_d], .bool F]) X))) :
    Calls Tryz.prog 35 #[.pointer (some ⟨b, 0, none⟩), .agg #[.int .i64 9, .string cS, .string cT, .int .i64 p, .int .i64 q, .int .i64 r, .int .i64 cn]] w (AskP F (.agg #[.int .i64 0, .string ⟨#[]⟩, .int .i64 n_x, .int .i64 n_y, .int .i64 n_z, .int .i64 n_n]) w) := by
  have HBW0 := Lib.hid (below_2 w (.cells #[.int .i64 9, .string cS, .string cT, .int .i64 p, .int .i64 q, .int .i64 r, .int .i64 cn] 33) (.cells #[.int .i64 0, .string ⟨#[]⟩, .int .i64 0, .int .i64 0, .int .i64 0, .int .i64 0] 30))
  have HCX0 := Lib.hid (show ((w.alloc (.cells #[.int .i64 9, .string cS, .string cT, .int .i64 p, .int .i64 q, .int .i64 r, .int .i64 cn] 33)).alloc (.cells #[.int .i64 0, .string ⟨#[]⟩, .int .i64 0, .int .i64 0, .int .i64 0, .int .i64 0] 30)).heap[w.heap.size]? = some (.cells #[.int .i64 9, .string cS, .string cT, .int .i64 p, .int .i64 q, .int .i64 r, .int .i64 cn] 33 (0, 0)) from (Below.heap_alloc _ _ _ (by simp)).trans (heap_alloc_new w _))
  have HRX0 := Lib.hid (show ((w.alloc (.cells #[.int .i64 9, .string cS, .string cT, .int .i64 p, .int .i64 q, .int .i64 r, .int .i64 cn] 33)).alloc (.cells #[.int .i64 0, .string ⟨#[]⟩, .int .i64 0, .int .i64 0, .int .i64 0, .int .i64 0] 30)).heap[w.heap.size + 1]? = some (.cells #[.int .i64 0, .string ⟨#[]⟩, .int .i64 0, .int .i64 0, .int .i64 0, .int .i64 0] 30 (0, 0)) from by have := heap_alloc_new (w.alloc (.cells #[.int .i64 9, .string cS, .string cT, .int .i64 p, .int .i64 q, .int .i64 r, .int .i64 cn] 33)) (.cells #[.int .i64 0, .string ⟨#[]⟩, .int .i64 0, .int .i64 0, .int .i64 0, .int .i64 0] 30); rwa [show (w.alloc (.cells #[.int .i64 9, .string cS, .string cT, .int .i64 p, .int .i64 q, .int .i64 r, .int .i64 cn] 33)).heap.size = w.heap.size + 1 from by simp] at this)
  obtain ⟨p0, p1, p2, p3, p4, p5, p6, _⟩ := rowc7 HCX0.out
  go_enter Tryz.func35, Tryz.ntmps35
  go_wp2_with (first | (go_at_call 73; (with_reducible refine (HAS.out _ HBW0.out).mono ?_); rintro e W0 ⟨rfl, hb1⟩; have HBW := Lib.hid (HBW0.out.trans (hb1.mono HBW0.out.size)); have HCX := Lib.hid ((hb1.block w.heap.size (by simp; omega)).trans HCX0.out); have HRX := Lib.hid ((hb1.block (w.heap.size + 1) (by simp)).trans HRX0.out); clear hb1 p0 p1 p2 p3 p4 p5 p6; obtain ⟨p0, p1, p2, p3, p4, p5, p6, _⟩ := rowc7 HCX.out; obtain ⟨x0, x1, x2, x3, x4, x5, f0, f1, f2, f3, f4, f5⟩ := rowc6 HRX.out))
  have HG2 : Hid (∀ X, Below W0.heap.size W0 X → Calls Tryz.prog 75 #[.pointer (some ⟨b, 0, none⟩), .string cS] X (RetBelow (.tuple #[.agg #[.string n_s, .int .i64 n_a, .int .i64 n_b, .int .i64 n_c, .int .i64 n_x, .int .i64 n_y, .int .i64 n_z, .int .i64 n_n, .bool n_d], .bool F]) X)) := Lib.hid fun X hX => HG.out X (HBW.out.trans (hX.mono HBW.out.size))
  have hlt : w.heap.size < W0.heap.size := (Array.getElem?_eq_some_iff.1 HCX.out).1
  rename_i KC HK
  have HKK : ∀ (g1 : Nat) (V1 : World) (z2 z5 z6 z9 z10 z11 z12 z13 z14 z15 z16 z17 z18 z20 z21 z22 z23 z24 z25 z26 z27 z28 z29 z30 z31 z32 z33 z34 z35 z36 z37 z38 z39 z40 z41 z42 z43 z44 z45 z46 z47 z48 z49 z50 z51 z52 z53 z54 z55 z56 z57 z58 z59 z60 z61 z62 z63 z64 z65 z66 z67 z68 z69 z70 z71 z72 z73 z74 z75 z76 z77 : Value), Hid (V1.heap[g1]? = some (.cells #[.string n_s, .int .i64 n_a, .int .i64 n_b, .int .i64 n_c, .int .i64 n_x, .int .i64 n_y, .int .i64 n_z, .int .i64 n_n, .bool n_d] 99 (0, 0))) → Hid (W0.heap.size ≤ g1) → Hid (Below W0.heap.size W0 V1) → KC { tmps := #[.pointer (some ⟨b, 0, none⟩), .agg #[.int .i64 9, .string cS, .string cT, .int .i64 p, .int .i64 q, .int .i64 r, .int .i64 cn], z2, .pointer (some ⟨w.heap.size, 0, none⟩), .pointer (some ⟨w.heap.size + 1, 0, none⟩), z5, z6, .pointer (some ⟨g1, 0, none⟩), .bool F, z9, z10, z11, z12, z13, z14, z15, z16, z17, z18, .int .i64 9, z20, z21, z22, z23, z24, z25, z26, z27, z28, z29, z30, z31, z32, z33, z34, z35, z36, z37, z38, z39, z40, z41, z42, z43, z44, z45, z46, z47, z48, z49, z50, z51, z52, z53, z54, z55, z56, z57, z58, z59, z60, z61, z62, z63, z64, z65, z66, z67, z68, z69, z70, z71, z72, z73, z74, z75, z76, z77], defers := [] } V1 := by
    intro g1 V1 z2 z5 z6 z9 z10 z11 z12 z13 z14 z15 z16 z17 z18 z20 z21 z22 z23 z24 z25 z26 z27 z28 z29 z30 z31 z32 z33 z34 z35 z36 z37 z38 z39 z40 z41 z42 z43 z44 z45 z46 z47 z48 z49 z50 z51 z52 z53 z54 z55 z56 z57 z58 z59 z60 z61 z62 z63 z64 z65 z66 z67 z68 z69 z70 z71 z72 z73 z74 z75 z76 z77 HRWg1 HGEg1 HBVg1
    refine HK _ _ ?_
    clear HK
    have HB1 := Lib.hid (HBW.out.trans (HBVg1.out.mono HBW.out.size))
    have HR1 := Lib.hid ((HBVg1.out.block _ (Array.getElem?_eq_some_iff.1 HRX.out).1).trans HRX.out)
    obtain ⟨x0, x1, x2, x3, x4, x5, f0, f1, f2, f3, f4, f5⟩ := rowc6 HR1.out
    cases F with
    | true =>
      obtain ⟨q0, q1, q2, q3, q4, q5, q6, q7, q8, _⟩ := rowc9 HRWg1.out
      have hbd : ∀ W : World, (Instr.build 30 #[(2, .agg #[.int .i64 n_x, .int .i64 n_y, .int .i64 n_z]), (3, .int .i64 n_n)]).run Tryz.prog W = .ok (.agg #[.int .i64 0, .string ⟨#[]⟩, .int .i64 n_x, .int .i64 n_y, .int .i64 n_z, .int .i64 n_n]) W := fun W => run_build W 30 _ _ (by kernel_rfl)
      go_wp2_with fail
      refine (show bodyPost Tryz.prog Tryz.f35 _ Exit.ret _ (wr6 V1 (w.heap.size + 1) (.int .i64 0) (.string ⟨#[]⟩) (.int .i64 n_x) (.int .i64 n_y) (.int .i64 n_z) (.int .i64 n_n)) from ?_)
      have R := wr6_row (a0 := .int .i64 0) (a1 := .string ⟨#[]⟩) (a2 := .int .i64 n_x) (a3 := .int .i64 n_y) (a4 := .int .i64 n_z) (a5 := .int .i64 n_n) HR1.out
      have FF := wr6_fr V1 (w.heap.size + 1) (.int .i64 0) (.string ⟨#[]⟩) (.int .i64 n_x) (.int .i64 n_y) (.int .i64 n_z) (.int .i64 n_n)
      generalize wr6 V1 (w.heap.size + 1) (.int .i64 0) (.string ⟨#[]⟩) (.int .i64 n_x) (.int .i64 n_y) (.int .i64 n_z) (.int .i64 n_n) = W at *
      obtain ⟨y0, y1, y2, y3, y4, y5, _⟩ := rowc6 R
      refine bodyPost_ret (v := .agg #[.int .i64 0, .string ⟨#[]⟩, .int .i64 n_x, .int .i64 n_y, .int .i64 n_z, .int .i64 n_n]) (by simp [results, Tryz.results35, go_sem, y0, y1, y2, y3, y4, y5]) rfl (.inl ⟨rfl, rfl, HB1.out.trans (FF.below HB1.out.size (fun k e => by omega))⟩)
    | false =>
      have hbd : ∀ W : World, (Instr.build 30 #[(0, .int .i64 10)]).run Tryz.prog W = .ok (.agg #[.int .i64 10, .string ⟨#[]⟩, .int .i64 0, .int .i64 0, .int .i64 0, .int .i64 0]) W := fun W => run_build W 30 _ _ (by kernel_rfl)
      go_wp2_with fail
      refine (show bodyPost Tryz.prog Tryz.f35 _ Exit.ret _ (wr6 V1 (w.heap.size + 1) (.int .i64 10) (.string ⟨#[]⟩) (.int .i64 0) (.int .i64 0) (.int .i64 0) (.int .i64 0)) from ?_)
      have R := wr6_row (a0 := .int .i64 10) (a1 := .string ⟨#[]⟩) (a2 := .int .i64 0) (a3 := .int .i64 0) (a4 := .int .i64 0) (a5 := .int .i64 0) HR1.out
      have FF := wr6_fr V1 (w.heap.size + 1) (.int .i64 10) (.string ⟨#[]⟩) (.int .i64 0) (.int .i64 0) (.int .i64 0) (.int .i64 0)
      generalize wr6 V1 (w.heap.size + 1) (.int .i64 10) (.string ⟨#[]⟩) (.int .i64 0) (.int .i64 0) (.int .i64 0) (.int .i64 0) = W at *
      obtain ⟨y0, y1, y2, y3, y4, y5, _⟩ := rowc6 R
      refine bodyPost_ret (v := .agg #[.int .i64 10, .string ⟨#[]⟩, .int .i64 0, .int .i64 0, .int .i64 0, .int .i64 0]) (by simp [results, Tryz.results35, go_sem, y0, y1, y2, y3, y4, y5]) rfl (.inr ⟨rfl, rfl, HB1.out.trans (FF.below HB1.out.size (fun k e => by omega))⟩)
  clear HK
  have HZ := Lib.hid (show (W0.drew.alloc (.cells #[.string ⟨#[]⟩, .int .i64 0, .int .i64 0, .int .i64 0, .int .i64 0, .int .i64 0, .int .i64 0, .int .i64 0, .bool false] 99)).heap[W0.heap.size]? = some (.cells #[.string ⟨#[]⟩, .int .i64 0, .int .i64 0, .int .i64 0, .int .i64 0, .int .i64 0, .int .i64 0, .int .i64 0, .bool false] 99 (0, 0)) from heap_alloc_new W0.drew (.cells #[.string ⟨#[]⟩, .int .i64 0, .int .i64 0, .int .i64 0, .int .i64 0, .int .i64 0, .int .i64 0, .int .i64 0, .bool false] 99))
  have HA := Lib.hid ((Below.refl W0.heap.size W0).alloc (Nat.le_refl _) (.cells #[.string ⟨#[]⟩, .int .i64 0, .int .i64 0, .int .i64 0, .int .i64 0, .int .i64 0, .int .i64 0, .int .i64 0, .bool false] 99)).drew
  have HD := Lib.hid (Below.refl W0.heap.size W0).drew
  go_region_with (first
    | (go_at_call 75; (with_reducible refine (HG2.out _ HD.out).mono ?_); rintro e w1 ⟨rfl, hb⟩; have hb2 := Lib.hid (HD.out.trans hb))
    | (go_at_call 75; (with_reducible refine (HG2.out _ HA.out).mono ?_); rintro e w1 ⟨rfl, hb⟩; have FR := Lib.hid ((hb.block W0.heap.size (by simp)).trans HZ.out); obtain ⟨q0, q1, q2, q3, q4, q5, q6, q7, q8, q9, q10, q11, q12, q13, q14, q15, q16, q17⟩ := rowc9 FR.out; have hb2 := Lib.hid (HA.out.trans (hb.mono (by simp)))))
  all_goals go_simp
  all_goals first
    | (with_reducible exact HKK w1.heap.size _ _ _ _ _ _ _ _ _ _ _ _ _ _ _ _ _ _ _ _ _ _ _ _ _ _ _ _ _ _ _ _ _ _ _ _ _ _ _ _ _ _ _ _ _ _ _ _ _ _ _ _ _ _ _ _ _ _ _ _ _ _ _ _ _ _ _ _ _ _ _ _ (Lib.hid (heap_alloc_new w1 _)) (Lib.hid hb2.out.size) (Lib.hid (hb2.out.alloc hb2.out.size _)))
    | exact HKK W0.heap.size _ _ _ _ _ _ _ _ _ _ _ _ _ _ _ _ _ _ _ _ _ _ _ _ _ _ _ _ _ _ _ _ _ _ _ _ _ _ _ _ _ _ _ _ _ _ _ _ _ _ _ _ _ _ _ _ _ _ _ _ _ _ _ _ _ _ _ _ _ _ _ _ (Lib.hid (wr9_row FR.out)) (Lib.hid (Nat.le_refl _)) (Lib.hid (wr9_below hb2.out (Nat.le_refl _)))
set_option maxHeartbeats 4000000 in
theorem ask_10 (b : Nat) (cS cT : ByteArray) (p q r cn : Int) (F : Bool) (t_s : ByteArray) (t_a : Int) (t_b : Int) (t_c : Int) (t_x : Int) (t_y : Int) (t_z : Int) (t_n : Int) (w : World)
    (HAS : Hid (∀ X, Below w.heap.size w X → Calls Tryz.prog 73 #[.agg #[.int .i64 10, .string cS, .string cT, .int .i64 p, .int .i64 q, .int .i64 r, .int .i64 cn]] X (RetBelow (.bool true) X)))
    (HG : Hid (∀ X, Below w.heap.size w X → Calls Tryz.prog 76 #[.pointer (some ⟨b, 1, none⟩), .string cS] X (RetBelow (.tuple #[.agg #[.string t_s, .int .i64 t_a, .int .i64 t_b, .int .i64 t_c, .int .i64 t_x, .int .i64 t_y, .int .i64 t_z, .int .i64 t_n], .bool F]) X))) :
    Calls Tryz.prog 35 #[.pointer (some ⟨b, 0, none⟩), .agg #[.int .i64 10, .string cS, .string cT, .int .i64 p, .int .i64 q, .int .i64 r, .int .i64 cn]] w (AskP F (.agg #[.int .i64 0, .string ⟨#[]⟩, .int .i64 t_x, .int .i64 t_y, .int .i64 t_z, .int .i64 t_n]) w) := by
  have HBW0 := Lib.hid (below_2 w (.cells #[.int .i64 10, .string cS, .string cT, .int .i64 p, .int .i64 q, .int .i64 r, .int .i64 cn] 33) (.cells #[.int .i64 0, .string ⟨#[]⟩, .int .i64 0, .int .i64 0, .int .i64 0, .int .i64 0] 30))
  have HCX0 := Lib.hid (show ((w.alloc (.cells #[.int .i64 10, .string cS, .string cT, .int .i64 p, .int .i64 q, .int .i64 r, .int .i64 cn] 33)).alloc (.cells #[.int .i64 0, .string ⟨#[]⟩, .int .i64 0, .int .i64 0, .int .i64 0, .int .i64 0] 30)).heap[w.heap.size]? = some (.cells #[.int .i64 10, .string cS, .string cT, .int .i64 p, .int .i64 q, .int .i64 r, .int .i64 cn] 33 (0, 0)) from (Below.heap_alloc _ _ _ (by simp)).trans (heap_alloc_new w _))
  have HRX0 := Lib.hid (show ((w.alloc (.cells #[.int .i64 10, .string cS, .string cT, .int .i64 p, .int .i64 q, .int .i64 r, .int .i64 cn] 33)).alloc (.cells #[.int .i64 0, .string ⟨#[]⟩, .int .i64 0, .int .i64 0, .int .i64 0, .int .i64 0] 30)).heap[w.heap.size + 1]? = some (.cells #[.int .i64 0, .string ⟨#[]⟩, .int .i64 0, .int .i64 0, .int .i64 0, .int .i64 0] 30 (0, 0)) from by have := heap_alloc_new (w.alloc (.cells #[.int .i64 10, .string cS, .string cT, .int .i64 p, .int .i64 q, .int .i64 r, .int .i64 cn] 33)) (.cells #[.int .i64 0, .string ⟨#[]⟩, .int .i64 0, .int .i64 0, .int .i64 0, .int .i64 0] 30); rwa [show (w.alloc (.cells #[.int .i64 10, .string cS, .string cT, .int .i64 p, .int .i64 q, .int .i64 r, .int .i64 cn] 33)).heap.size = w.heap.size + 1 from by simp] at this)
  obtain ⟨p0, p1, p2, p3, p4, p5, p6, _⟩ := rowc7 HCX0.out
  go_enter Tryz.func35, Tryz.ntmps35
  go_wp2_with (first | (go_at_call 73; (with_reducible refine (HAS.out _ HBW0.out).mono ?_); rintro e W0 ⟨rfl, hb1⟩; have HBW := Lib.hid (HBW0.out.trans (hb1.mono HBW0.out.size)); have HCX := Lib.hid ((hb1.block w.heap.size (by simp; omega)).trans HCX0.out); have HRX := Lib.hid ((hb1.block (w.heap.size + 1) (by simp)).trans HRX0.out); clear hb1 p0 p1 p2 p3 p4 p5 p6; obtain ⟨p0, p1, p2, p3, p4, p5, p6, _⟩ := rowc7 HCX.out; obtain ⟨x0, x1, x2, x3, x4, x5, f0, f1, f2, f3, f4, f5⟩ := rowc6 HRX.out))
  have HG2 : Hid (∀ X, Below W0.heap.size W0 X → Calls Tryz.prog 76 #[.pointer (some ⟨b, 1, none⟩), .string cS] X (RetBelow (.tuple #[.agg #[.string t_s, .int .i64 t_a, .int .i64 t_b, .int .i64 t_c, .int .i64 t_x, .int .i64 t_y, .int .i64 t_z, .int .i64 t_n], .bool F]) X)) := Lib.hid fun X hX => HG.out X (HBW.out.trans (hX.mono HBW.out.size))
  have hlt : w.heap.size < W0.heap.size := (Array.getElem?_eq_some_iff.1 HCX.out).1
  rename_i KC HK
  have HKK : ∀ (g1 : Nat) (V1 : World) (z2 z5 z6 z7 z8 z11 z12 z13 z14 z15 z16 z17 z18 z20 z21 z22 z23 z24 z25 z26 z27 z28 z29 z30 z31 z32 z33 z34 z35 z36 z37 z38 z39 z40 z41 z42 z43 z44 z45 z46 z47 z48 z49 z50 z51 z52 z53 z54 z55 z56 z57 z58 z59 z60 z61 z62 z63 z64 z65 z66 z67 z68 z69 z70 z71 z72 z73 z74 z75 z76 z77 : Value), Hid (V1.heap[g1]? = some (.cells #[.string t_s, .int .i64 t_a, .int .i64 t_b, .int .i64 t_c, .int .i64 t_x, .int .i64 t_y, .int .i64 t_z, .int .i64 t_n] 104 (0, 0))) → Hid (W0.heap.size ≤ g1) → Hid (Below W0.heap.size W0 V1) → KC { tmps := #[.pointer (some ⟨b, 0, none⟩), .agg #[.int .i64 10, .string cS, .string cT, .int .i64 p, .int .i64 q, .int .i64 r, .int .i64 cn], z2, .pointer (some ⟨w.heap.size, 0, none⟩), .pointer (some ⟨w.heap.size + 1, 0, none⟩), z5, z6, z7, z8, .pointer (some ⟨g1, 0, none⟩), .bool F, z11, z12, z13, z14, z15, z16, z17, z18, .int .i64 10, z20, z21, z22, z23, z24, z25, z26, z27, z28, z29, z30, z31, z32, z33, z34, z35, z36, z37, z38, z39, z40, z41, z42, z43, z44, z45, z46, z47, z48, z49, z50, z51, z52, z53, z54, z55, z56, z57, z58, z59, z60, z61, z62, z63, z64, z65, z66, z67, z68, z69, z70, z71, z72, z73, z74, z75, z76, z77], defers := [] } V1 := by
    intro g1 V1 z2 z5 z6 z7 z8 z11 z12 z13 z14 z15 z16 z17 z18 z20 z21 z22 z23 z24 z25 z26 z27 z28 z29 z30 z31 z32 z33 z34 z35 z36 z37 z38 z39 z40 z41 z42 z43 z44 z45 z46 z47 z48 z49 z50 z51 z52 z53 z54 z55 z56 z57 z58 z59 z60 z61 z62 z63 z64 z65 z66 z67 z68 z69 z70 z71 z72 z73 z74 z75 z76 z77 HRWg1 HGEg1 HBVg1
    refine HK _ _ ?_
    clear HK
    have HB1 := Lib.hid (HBW.out.trans (HBVg1.out.mono HBW.out.size))
    have HR1 := Lib.hid ((HBVg1.out.block _ (Array.getElem?_eq_some_iff.1 HRX.out).1).trans HRX.out)
    obtain ⟨x0, x1, x2, x3, x4, x5, f0, f1, f2, f3, f4, f5⟩ := rowc6 HR1.out
    cases F with
    | true =>
      obtain ⟨q0, q1, q2, q3, q4, q5, q6, q7, _⟩ := rowc8 HRWg1.out
      have hbd : ∀ W : World, (Instr.build 30 #[(2, .agg #[.int .i64 t_x, .int .i64 t_y, .int .i64 t_z]), (3, .int .i64 t_n)]).run Tryz.prog W = .ok (.agg #[.int .i64 0, .string ⟨#[]⟩, .int .i64 t_x, .int .i64 t_y, .int .i64 t_z, .int .i64 t_n]) W := fun W => run_build W 30 _ _ (by kernel_rfl)
      go_wp2_with fail
      refine (show bodyPost Tryz.prog Tryz.f35 _ Exit.ret _ (wr6 V1 (w.heap.size + 1) (.int .i64 0) (.string ⟨#[]⟩) (.int .i64 t_x) (.int .i64 t_y) (.int .i64 t_z) (.int .i64 t_n)) from ?_)
      have R := wr6_row (a0 := .int .i64 0) (a1 := .string ⟨#[]⟩) (a2 := .int .i64 t_x) (a3 := .int .i64 t_y) (a4 := .int .i64 t_z) (a5 := .int .i64 t_n) HR1.out
      have FF := wr6_fr V1 (w.heap.size + 1) (.int .i64 0) (.string ⟨#[]⟩) (.int .i64 t_x) (.int .i64 t_y) (.int .i64 t_z) (.int .i64 t_n)
      generalize wr6 V1 (w.heap.size + 1) (.int .i64 0) (.string ⟨#[]⟩) (.int .i64 t_x) (.int .i64 t_y) (.int .i64 t_z) (.int .i64 t_n) = W at *
      obtain ⟨y0, y1, y2, y3, y4, y5, _⟩ := rowc6 R
      refine bodyPost_ret (v := .agg #[.int .i64 0, .string ⟨#[]⟩, .int .i64 t_x, .int .i64 t_y, .int .i64 t_z, .int .i64 t_n]) (by simp [results, Tryz.results35, go_sem, y0, y1, y2, y3, y4, y5]) rfl (.inl ⟨rfl, rfl, HB1.out.trans (FF.below HB1.out.size (fun k e => by omega))⟩)
    | false =>
      have hbd : ∀ W : World, (Instr.build 30 #[(0, .int .i64 10)]).run Tryz.prog W = .ok (.agg #[.int .i64 10, .string ⟨#[]⟩, .int .i64 0, .int .i64 0, .int .i64 0, .int .i64 0]) W := fun W => run_build W 30 _ _ (by kernel_rfl)
      go_wp2_with fail
      refine (show bodyPost Tryz.prog Tryz.f35 _ Exit.ret _ (wr6 V1 (w.heap.size + 1) (.int .i64 10) (.string ⟨#[]⟩) (.int .i64 0) (.int .i64 0) (.int .i64 0) (.int .i64 0)) from ?_)
      have R := wr6_row (a0 := .int .i64 10) (a1 := .string ⟨#[]⟩) (a2 := .int .i64 0) (a3 := .int .i64 0) (a4 := .int .i64 0) (a5 := .int .i64 0) HR1.out
      have FF := wr6_fr V1 (w.heap.size + 1) (.int .i64 10) (.string ⟨#[]⟩) (.int .i64 0) (.int .i64 0) (.int .i64 0) (.int .i64 0)
      generalize wr6 V1 (w.heap.size + 1) (.int .i64 10) (.string ⟨#[]⟩) (.int .i64 0) (.int .i64 0) (.int .i64 0) (.int .i64 0) = W at *
      obtain ⟨y0, y1, y2, y3, y4, y5, _⟩ := rowc6 R
      refine bodyPost_ret (v := .agg #[.int .i64 10, .string ⟨#[]⟩, .int .i64 0, .int .i64 0, .int .i64 0, .int .i64 0]) (by simp [results, Tryz.results35, go_sem, y0, y1, y2, y3, y4, y5]) rfl (.inr ⟨rfl, rfl, HB1.out.trans (FF.below HB1.out.size (fun k e => by omega))⟩)
  clear HK
  have HZ := Lib.hid (show (W0.drew.alloc (.cells #[.string ⟨#[]⟩, .int .i64 0, .int .i64 0, .int .i64 0, .int .i64 0, .int .i64 0, .int .i64 0, .int .i64 0] 104)).heap[W0.heap.size]? = some (.cells #[.string ⟨#[]⟩, .int .i64 0, .int .i64 0, .int .i64 0, .int .i64 0, .int .i64 0, .int .i64 0, .int .i64 0] 104 (0, 0)) from heap_alloc_new W0.drew (.cells #[.string ⟨#[]⟩, .int .i64 0, .int .i64 0, .int .i64 0, .int .i64 0, .int .i64 0, .int .i64 0, .int .i64 0] 104))
  have HA := Lib.hid ((Below.refl W0.heap.size W0).alloc (Nat.le_refl _) (.cells #[.string ⟨#[]⟩, .int .i64 0, .int .i64 0, .int .i64 0, .int .i64 0, .int .i64 0, .int .i64 0, .int .i64 0] 104)).drew
  have HD := Lib.hid (Below.refl W0.heap.size W0).drew
  go_region_with (first
    | (go_at_call 76; (with_reducible refine (HG2.out _ HD.out).mono ?_); rintro e w1 ⟨rfl, hb⟩; have hb2 := Lib.hid (HD.out.trans hb))
    | (go_at_call 76; (with_reducible refine (HG2.out _ HA.out).mono ?_); rintro e w1 ⟨rfl, hb⟩; have FR := Lib.hid ((hb.block W0.heap.size (by simp)).trans HZ.out); obtain ⟨q0, q1, q2, q3, q4, q5, q6, q7, q8, q9, q10, q11, q12, q13, q14, q15⟩ := rowc8 FR.out; have hb2 := Lib.hid (HA.out.trans (hb.mono (by simp)))))
  all_goals go_simp
  all_goals first
    | (with_reducible exact HKK w1.heap.size _ _ _ _ _ _ _ _ _ _ _ _ _ _ _ _ _ _ _ _ _ _ _ _ _ _ _ _ _ _ _ _ _ _ _ _ _ _ _ _ _ _ _ _ _ _ _ _ _ _ _ _ _ _ _ _ _ _ _ _ _ _ _ _ _ _ _ _ _ _ _ _ (Lib.hid (heap_alloc_new w1 _)) (Lib.hid hb2.out.size) (Lib.hid (hb2.out.alloc hb2.out.size _)))
    | exact HKK W0.heap.size _ _ _ _ _ _ _ _ _ _ _ _ _ _ _ _ _ _ _ _ _ _ _ _ _ _ _ _ _ _ _ _ _ _ _ _ _ _ _ _ _ _ _ _ _ _ _ _ _ _ _ _ _ _ _ _ _ _ _ _ _ _ _ _ _ _ _ _ _ _ _ _ (Lib.hid (wr8_row FR.out)) (Lib.hid (Nat.le_refl _)) (Lib.hid (wr8_below hb2.out (Nat.le_refl _)))
end Go.Proofs.YtphclpjekpdifaaGreat
