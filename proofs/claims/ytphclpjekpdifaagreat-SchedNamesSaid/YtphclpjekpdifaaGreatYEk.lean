import Derived.Test.YtphclpjekpdifaaGreatYQ
import Derived.Deep.RegionWith
import Derived.StillTailTactics
import Derived.Test.YtphclpjekpdifaaGreatYX
namespace Go.Proofs.YtphclpjekpdifaaGreat
set_option maxRecDepth 20000
open Go.RowKit
open PS (Tx putM dropM setM findM Nod Ten Jb kOf St)
open Go.Proofs.YtphclpjekpdifaaGreat.Nm (str)
open Go.Proofs.YtphclpjekpdifaaGreat.Vc (RetBelow fitB I64)
set_option linter.unusedVariables false
theorem rowc6 {w : World} {b : Nat} {a0 a1 a2 a3 a4 a5 : Value} {t : TypeId} (h : w.heap[b]? = some (.cells #[a0, a1, a2, a3, a4, a5] t (0, 0))) :
    w.cell? ⟨b, 0, none⟩ = some a0 ∧ w.cell? ⟨b, 1, none⟩ = some a1 ∧ w.cell? ⟨b, 2, none⟩ = some a2 ∧ w.cell? ⟨b, 3, none⟩ = some a3 ∧ w.cell? ⟨b, 4, none⟩ = some a4 ∧ w.cell? ⟨b, 5, none⟩ = some a5 ∧ w.frozen? ⟨b, 0, none⟩ = false ∧ w.frozen? ⟨b, 1, none⟩ = false ∧ w.frozen? ⟨b, 2, none⟩ = false ∧ w.frozen? ⟨b, 3, none⟩ = false ∧ w.frozen? ⟨b, 4, none⟩ = false ∧ w.frozen? ⟨b, 5, none⟩ = false := by
  refine ⟨?_, ?_, ?_, ?_, ?_, ?_, ?_, ?_, ?_, ?_, ?_, ?_⟩
  all_goals first | exact Lib.frozen_of_heap h _ | (rw [Lib.cell_of_heap h]; rfl)
def wr6 (w : World) (R : Nat) (a0 a1 a2 a3 a4 a5 : Value) : World := ((((((w.setCell ⟨R, 0, none⟩ a0).setCell ⟨R, 1, none⟩ a1).setCell ⟨R, 2, none⟩ a2).setCell ⟨R, 3, none⟩ a3).setCell ⟨R, 4, none⟩ a4).setCell ⟨R, 5, none⟩ a5)
theorem wr6_row {w : World} {R : Nat} {a0 a1 a2 a3 a4 a5 y0 y1 y2 y3 y4 y5 : Value} {t : TypeId} (h : w.heap[R]? = some (.cells #[y0, y1, y2, y3, y4, y5] t (0, 0))) : (wr6 w R a0 a1 a2 a3 a4 a5).heap[R]? = some (.cells #[a0, a1, a2, a3, a4, a5] t (0, 0)) := by
  have h0 := Wi.heap_set _ R 0 a0 _ _ h
  have h1 := Wi.heap_set _ R 1 a1 _ _ h0
  have h2 := Wi.heap_set _ R 2 a2 _ _ h1
  have h3 := Wi.heap_set _ R 3 a3 _ _ h2
  have h4 := Wi.heap_set _ R 4 a4 _ _ h3
  have h5 := Wi.heap_set _ R 5 a5 _ _ h4
  unfold wr6
  simpa only [List.setIfInBounds_toArray, List.set_cons_zero, List.set_cons_succ] using h5
theorem wr6_below {w0 w : World} {B R : Nat} {a0 a1 a2 a3 a4 a5 : Value} (h : Below B w0 w) (hR : B ≤ R) : Below B w0 (wr6 w R a0 a1 a2 a3 a4 a5) := by
  have h0 := h.setCell (p := ⟨R, 0, none⟩) hR a0
  have h1 := h0.setCell (p := ⟨R, 1, none⟩) hR a1
  have h2 := h1.setCell (p := ⟨R, 2, none⟩) hR a2
  have h3 := h2.setCell (p := ⟨R, 3, none⟩) hR a3
  have h4 := h3.setCell (p := ⟨R, 4, none⟩) hR a4
  have h5 := h4.setCell (p := ⟨R, 5, none⟩) hR a5
  exact h5
theorem wr6_fr (w : World) (R : Nat) (a0 a1 a2 a3 a4 a5 : Value) : Fr (· = R) w (wr6 w R a0 a1 a2 a3 a4 a5) := by
  have h := Fr.refl (· = R) w
  have h0 := h.setCell (p := ⟨R, 0, none⟩) (.inl rfl) a0
  have h1 := h0.setCell (p := ⟨R, 1, none⟩) (.inl rfl) a1
  have h2 := h1.setCell (p := ⟨R, 2, none⟩) (.inl rfl) a2
  have h3 := h2.setCell (p := ⟨R, 3, none⟩) (.inl rfl) a3
  have h4 := h3.setCell (p := ⟨R, 4, none⟩) (.inl rfl) a4
  have h5 := h4.setCell (p := ⟨R, 5, none⟩) (.inl rfl) a5
  exact h5
def KillPost (FJ : Bool) (on : ByteArray) (R3 : World → World → Prop) (w : World) (e : Ending) (w' : World) : Prop :=
  (FJ = false ∧ e = .returned (.agg #[.int .i64 10, .string ⟨#[]⟩, .int .i64 0, .int .i64 0, .int .i64 0, .int .i64 0]) ∧ Below w.heap.size w w') ∨
    (FJ = true ∧ e = .returned (.agg #[.int .i64 0, .string on, .int .i64 0, .int .i64 0, .int .i64 0, .int .i64 0]) ∧ ∃ X0 X3, Below w.heap.size w X0 ∧ R3 X0 X3 ∧ w.heap.size + 1 < X0.heap.size ∧ Fr (· = w.heap.size + 1) X3 w')
set_option maxHeartbeats 8000000 in
theorem kill_core (b : Nat) (co : Int) (cS cT : ByteArray) (p q r cn : Int) (FJ FT FN : Bool) (j_s : ByteArray) (j_t : ByteArray) (j_p : Int) (j_q : Int) (j_r : Int) (j_on : ByteArray) (j_st : Int) (t_s : ByteArray) (t_a : Int) (t_b : Int) (t_c : Int) (t_x : Int) (t_y : Int) (t_z : Int) (t_n : Int) (n_s : ByteArray) (n_a : Int) (n_b : Int) (n_c : Int) (n_x : Int) (n_y : Int) (n_z : Int) (n_n : Int) (n_d : Bool) (tX tY tZ tN nX nY nZ nN : Int) (R1 R2 R3 : World → World → Prop) (w : World)
    (HGJ : Hid (∀ X, Below w.heap.size w X → Calls Tryz.prog 74 #[.pointer (some ⟨b, 2, none⟩), .string cS] X (RetBelow (.tuple #[.agg #[.string j_s, .string j_t, .int .i64 j_p, .int .i64 j_q, .int .i64 j_r, .string j_on, .int .i64 j_st], .bool FJ]) X)))
    (HGT : Hid (∀ X, Below w.heap.size w X → Calls Tryz.prog 76 #[.pointer (some ⟨b, 1, none⟩), .string j_t] X (RetBelow (.tuple #[.agg #[.string t_s, .int .i64 t_a, .int .i64 t_b, .int .i64 t_c, .int .i64 t_x, .int .i64 t_y, .int .i64 t_z, .int .i64 t_n], .bool FT]) X)))
    (HGN : Hid (∀ X, Below w.heap.size w X → Calls Tryz.prog 75 #[.pointer (some ⟨b, 0, none⟩), .string j_on] X (RetBelow (.tuple #[.agg #[.string n_s, .int .i64 n_a, .int .i64 n_b, .int .i64 n_c, .int .i64 n_x, .int .i64 n_y, .int .i64 n_z, .int .i64 n_n, .bool n_d], .bool FN]) X)))
    (HTK : Hid (∀ g W, RmC W g t_a t_b t_c t_x t_y t_z t_n → Calls Tryz.prog 88 #[.pointer (some ⟨g, 1, none⟩), .agg #[.int .i64 j_p, .int .i64 j_q, .int .i64 j_r]] W fun e w' => e = .returned (.tuple #[]) ∧ ∃ w1, Below W.heap.size W w1 ∧ w' = setUsed w1 g tX tY tZ tN))
    (HNK : Hid (∀ g W, RmC W g n_a n_b n_c n_x n_y n_z n_n → Calls Tryz.prog 88 #[.pointer (some ⟨g, 1, none⟩), .agg #[.int .i64 j_p, .int .i64 j_q, .int .i64 j_r]] W fun e w' => e = .returned (.tuple #[]) ∧ ∃ w1, Below W.heap.size W w1 ∧ w' = setUsed w1 g nX nY nZ nN))
    (HP1 : Hid (∀ X0 X, Below w.heap.size w X0 → Below X0.heap.size X0 X → Calls Tryz.prog 84 #[.pointer (some ⟨b, 1, none⟩), .string t_s, .agg #[.string t_s, .int .i64 t_a, .int .i64 t_b, .int .i64 t_c, .int .i64 tX, .int .i64 tY, .int .i64 tZ, .int .i64 tN]] X fun e w' => e = .returned (.tuple #[]) ∧ R1 X0 w'))
    (HP2 : Hid (∀ X0 X1 X, Below w.heap.size w X0 → R1 X0 X1 → Below X1.heap.size X1 X → Calls Tryz.prog 81 #[.pointer (some ⟨b, 0, none⟩), .string n_s, .agg #[.string n_s, .int .i64 n_a, .int .i64 n_b, .int .i64 n_c, .int .i64 nX, .int .i64 nY, .int .i64 nZ, .int .i64 nN, .bool n_d]] X fun e w' => e = .returned (.tuple #[]) ∧ R2 X0 w'))
    (HP3 : Hid (FJ = true → ∀ X0 X1 X, Below w.heap.size w X0 → R2 X0 X1 → Below X1.heap.size X1 X → Calls Tryz.prog 89 #[.pointer (some ⟨b, 2, none⟩), .string j_s] X fun e w' => e = .returned (.tuple #[]) ∧ R3 X0 w'))
    (HFr : Hid (∀ X0 X1, (R1 X0 X1 ∨ R2 X0 X1 ∨ R3 X0 X1) → (∀ k, w.heap.size ≤ k → k < X0.heap.size → X1.heap[k]? = X0.heap[k]?) ∧ X0.heap.size ≤ X1.heap.size)) :
    Calls Tryz.prog 42 #[.pointer (some ⟨b, 0, none⟩), .agg #[.int .i64 co, .string cS, .string cT, .int .i64 p, .int .i64 q, .int .i64 r, .int .i64 cn]] w (KillPost FJ j_on R3 w) := by
  have HBW0 := Lib.hid (below_2 w (.cells #[.int .i64 co, .string cS, .string cT, .int .i64 p, .int .i64 q, .int .i64 r, .int .i64 cn] 33) (.cells #[.int .i64 0, .string ⟨#[]⟩, .int .i64 0, .int .i64 0, .int .i64 0, .int .i64 0] 30))
  have HCX0 := Lib.hid (show ((w.alloc (.cells #[.int .i64 co, .string cS, .string cT, .int .i64 p, .int .i64 q, .int .i64 r, .int .i64 cn] 33)).alloc (.cells #[.int .i64 0, .string ⟨#[]⟩, .int .i64 0, .int .i64 0, .int .i64 0, .int .i64 0] 30)).heap[w.heap.size]? = some (.cells #[.int .i64 co, .string cS, .string cT, .int .i64 p, .int .i64 q, .int .i64 r, .int .i64 cn] 33 (0, 0)) from (Below.heap_alloc _ _ _ (by simp)).trans (heap_alloc_new w _))
  have HRX0 := Lib.hid (show ((w.alloc (.cells #[.int .i64 co, .string cS, .string cT, .int .i64 p, .int .i64 q, .int .i64 r, .int .i64 cn] 33)).alloc (.cells #[.int .i64 0, .string ⟨#[]⟩, .int .i64 0, .int .i64 0, .int .i64 0, .int .i64 0] 30)).heap[w.heap.size + 1]? = some (.cells #[.int .i64 0, .string ⟨#[]⟩, .int .i64 0, .int .i64 0, .int .i64 0, .int .i64 0] 30 (0, 0)) from by have := heap_alloc_new (w.alloc (.cells #[.int .i64 co, .string cS, .string cT, .int .i64 p, .int .i64 q, .int .i64 r, .int .i64 cn] 33)) (.cells #[.int .i64 0, .string ⟨#[]⟩, .int .i64 0, .int .i64 0, .int .i64 0, .int .i64 0] 30); rwa [show (w.alloc (.cells #[.int .i64 co, .string cS, .string cT, .int .i64 p, .int .i64 q, .int .i64 r, .int .i64 cn] 33)).heap.size = w.heap.size + 1 from by simp] at this)
  have HBD := Lib.hid (show ∀ W : World, (Instr.build 30 #[(1, .string j_on)]).run Tryz.prog W = .ok (.agg #[.int .i64 0, .string j_on, .int .i64 0, .int .i64 0, .int .i64 0, .int .i64 0]) W from fun W => run_build W 30 _ _ (by kernel_rfl))
  have HBD0 := Lib.hid (show ∀ W : World, (Instr.build 30 #[(0, .int .i64 10)]).run Tryz.prog W = .ok (.agg #[.int .i64 10, .string ⟨#[]⟩, .int .i64 0, .int .i64 0, .int .i64 0, .int .i64 0]) W from fun W => run_build W 30 _ _ (by kernel_rfl))
  go_enter Tryz.func42, Tryz.ntmps42
  go_wp2_with fail
  have c1 := (rowc7 HCX0.out).2.1
  have HGJ2 : Hid (∀ X, Below ((w.alloc (.cells #[.int .i64 co, .string cS, .string cT, .int .i64 p, .int .i64 q, .int .i64 r, .int .i64 cn] 33)).alloc (.cells #[.int .i64 0, .string ⟨#[]⟩, .int .i64 0, .int .i64 0, .int .i64 0, .int .i64 0] 30)).heap.size ((w.alloc (.cells #[.int .i64 co, .string cS, .string cT, .int .i64 p, .int .i64 q, .int .i64 r, .int .i64 cn] 33)).alloc (.cells #[.int .i64 0, .string ⟨#[]⟩, .int .i64 0, .int .i64 0, .int .i64 0, .int .i64 0] 30)) X → Calls Tryz.prog 74 #[.pointer (some ⟨b, 2, none⟩), .string cS] X (RetBelow (.tuple #[.agg #[.string j_s, .string j_t, .int .i64 j_p, .int .i64 j_q, .int .i64 j_r, .string j_on, .int .i64 j_st], .bool FJ]) X)) := Lib.hid fun X hX => HGJ.out X (HBW0.out.trans (hX.mono HBW0.out.size))
  have hlt : w.heap.size < ((w.alloc (.cells #[.int .i64 co, .string cS, .string cT, .int .i64 p, .int .i64 q, .int .i64 r, .int .i64 cn] 33)).alloc (.cells #[.int .i64 0, .string ⟨#[]⟩, .int .i64 0, .int .i64 0, .int .i64 0, .int .i64 0] 30)).heap.size := by simp; omega
  have HSZ := Lib.hid (show w.heap.size + 2 ≤ ((w.alloc (.cells #[.int .i64 co, .string cS, .string cT, .int .i64 p, .int .i64 q, .int .i64 r, .int .i64 cn] 33)).alloc (.cells #[.int .i64 0, .string ⟨#[]⟩, .int .i64 0, .int .i64 0, .int .i64 0, .int .i64 0] 30)).heap.size from by simp)
  have HBW := HBW0
  have HCX := HCX0
  have HRX := HRX0
  clear HBW0 HCX0 HRX0
  generalize ((w.alloc (.cells #[.int .i64 co, .string cS, .string cT, .int .i64 p, .int .i64 q, .int .i64 r, .int .i64 cn] 33)).alloc (.cells #[.int .i64 0, .string ⟨#[]⟩, .int .i64 0, .int .i64 0, .int .i64 0, .int .i64 0] 30)) = W0 at *
  rename_i KC HK
  have HKK : ∀ (g1 : Nat) (V1 : World) (z2 z7 z8 z9 z10 z11 z12 z13 z14 z15 z16 z17 z18 z19 z20 z21 z22 z23 z24 z25 z26 z27 z28 z29 z30 z31 z32 z33 z34 z35 z36 z37 z38 z39 z40 z41 z42 z43 z44 z45 z46 z47 z48 z49 z50 z51 z52 z53 z54 z55 z56 z57 z58 z59 z60 z61 z62 z63 z64 z65 z66 z67 z68 z69 z70 z71 : Value), Hid (V1.heap[g1]? = some (.cells #[.string j_s, .string j_t, .int .i64 j_p, .int .i64 j_q, .int .i64 j_r, .string j_on, .int .i64 j_st] 46 (0, 0))) → Hid (W0.heap.size ≤ g1) → Hid (Below W0.heap.size W0 V1) → KC { tmps := #[.pointer (some ⟨b, 0, none⟩), .agg #[.int .i64 co, .string cS, .string cT, .int .i64 p, .int .i64 q, .int .i64 r, .int .i64 cn], z2, .pointer (some ⟨w.heap.size, 0, none⟩), .pointer (some ⟨w.heap.size + 1, 0, none⟩), .pointer (some ⟨g1, 0, none⟩), .bool FJ, z7, z8, z9, z10, z11, z12, z13, z14, z15, z16, z17, z18, z19, z20, z21, z22, z23, z24, z25, z26, z27, z28, z29, z30, z31, z32, z33, z34, z35, z36, z37, z38, z39, z40, z41, z42, z43, z44, z45, z46, z47, z48, z49, z50, z51, z52, z53, z54, z55, z56, z57, z58, z59, z60, z61, z62, z63, z64, z65, z66, z67, z68, z69, z70, z71], defers := [] } V1 := by
    intro g1 V1 z2 z7 z8 z9 z10 z11 z12 z13 z14 z15 z16 z17 z18 z19 z20 z21 z22 z23 z24 z25 z26 z27 z28 z29 z30 z31 z32 z33 z34 z35 z36 z37 z38 z39 z40 z41 z42 z43 z44 z45 z46 z47 z48 z49 z50 z51 z52 z53 z54 z55 z56 z57 z58 z59 z60 z61 z62 z63 z64 z65 z66 z67 z68 z69 z70 z71 HRWg1 HGEg1 HBVg1
    refine HK _ _ ?_
    clear HK
    have HB1 := Lib.hid (HBW.out.trans (HBVg1.out.mono HBW.out.size))
    have HX1 := Lib.hid ((HBVg1.out.block _ (Array.getElem?_eq_some_iff.1 HRX.out).1).trans HRX.out)
    have hg1 : w.heap.size + 2 ≤ g1 := by have := HGEg1.out; have := HSZ.out; omega
    have HG1 := Lib.hid hg1
    clear hg1
    have HGT2 : Hid (∀ X, Below V1.heap.size V1 X → Calls Tryz.prog 76 #[.pointer (some ⟨b, 1, none⟩), .string j_t] X (RetBelow (.tuple #[.agg #[.string t_s, .int .i64 t_a, .int .i64 t_b, .int .i64 t_c, .int .i64 t_x, .int .i64 t_y, .int .i64 t_z, .int .i64 t_n], .bool FT]) X)) := Lib.hid fun X hX => HGT.out X (HB1.out.trans (hX.mono HB1.out.size))
    cases FJ with
    | false =>
      obtain ⟨x0, x1, x2, x3, x4, x5, f0, f1, f2, f3, f4, f5⟩ := rowc6 HX1.out
      have hbd := HBD0.out
      go_wp2_with fail
      refine (show bodyPost Tryz.prog Tryz.f42 _ Exit.ret _ (wr6 V1 (w.heap.size + 1) (.int .i64 10) (.string ⟨#[]⟩) (.int .i64 0) (.int .i64 0) (.int .i64 0) (.int .i64 0)) from ?_)
      have R := wr6_row (a0 := .int .i64 10) (a1 := .string ⟨#[]⟩) (a2 := .int .i64 0) (a3 := .int .i64 0) (a4 := .int .i64 0) (a5 := .int .i64 0) HX1.out
      have FF := wr6_below (a0 := .int .i64 10) (a1 := .string ⟨#[]⟩) (a2 := .int .i64 0) (a3 := .int .i64 0) (a4 := .int .i64 0) (a5 := .int .i64 0) HB1.out (Nat.le_succ w.heap.size)
      generalize wr6 V1 (w.heap.size + 1) (.int .i64 10) (.string ⟨#[]⟩) (.int .i64 0) (.int .i64 0) (.int .i64 0) (.int .i64 0) = W at *
      obtain ⟨y0, y1, y2, y3, y4, y5, _⟩ := rowc6 R
      refine bodyPost_ret (v := .agg #[.int .i64 10, .string ⟨#[]⟩, .int .i64 0, .int .i64 0, .int .i64 0, .int .i64 0]) (by simp [results, Tryz.results42, go_sem, y0, y1, y2, y3, y4, y5]) rfl (.inl ⟨rfl, rfl, FF⟩)
    | true =>
      have HP4 := Lib.hid (HP3.out rfl)
      clear HP3
      have hj1 := (rowc7 HRWg1.out).2.1
      have hjl := (Array.getElem?_eq_some_iff.1 HRWg1.out).1
      go_wp2_with fail
      rename_i KD GK
      have GKK : ∀ (g2 : Nat) (V2 : World) (z2 z9 z10 z11 z12 z13 z14 z15 z16 z17 z18 z19 z20 z21 z22 z23 z24 z25 z26 z27 z28 z29 z30 z31 z32 z33 z34 z35 z36 z37 z38 z39 z40 z41 z42 z43 z44 z45 z46 z47 z48 z49 z50 z51 z52 z53 z54 z55 z56 z57 z58 z59 z60 z61 z62 z63 z64 z65 z66 z67 z68 z69 z70 z71 : Value), Hid (V2.heap[g2]? = some (.cells #[.string t_s, .int .i64 t_a, .int .i64 t_b, .int .i64 t_c, .int .i64 t_x, .int .i64 t_y, .int .i64 t_z, .int .i64 t_n] 104 (0, 0))) → Hid (V1.heap.size ≤ g2) → Hid (Below V1.heap.size V1 V2) → KD { tmps := #[.pointer (some ⟨b, 0, none⟩), .agg #[.int .i64 co, .string cS, .string cT, .int .i64 p, .int .i64 q, .int .i64 r, .int .i64 cn], z2, .pointer (some ⟨w.heap.size, 0, none⟩), .pointer (some ⟨w.heap.size + 1, 0, none⟩), .pointer (some ⟨g1, 0, none⟩), .bool true, .pointer (some ⟨g2, 0, none⟩), .bool FT, z9, z10, z11, z12, z13, z14, z15, z16, z17, z18, z19, z20, z21, z22, z23, z24, z25, z26, z27, z28, z29, z30, z31, z32, z33, z34, z35, z36, z37, z38, z39, z40, z41, z42, z43, z44, z45, z46, z47, z48, z49, z50, z51, z52, z53, z54, z55, z56, z57, z58, z59, z60, z61, z62, z63, z64, z65, z66, z67, z68, z69, z70, z71], defers := [] } V2 := by
        intro g2 V2 z2 z9 z10 z11 z12 z13 z14 z15 z16 z17 z18 z19 z20 z21 z22 z23 z24 z25 z26 z27 z28 z29 z30 z31 z32 z33 z34 z35 z36 z37 z38 z39 z40 z41 z42 z43 z44 z45 z46 z47 z48 z49 z50 z51 z52 z53 z54 z55 z56 z57 z58 z59 z60 z61 z62 z63 z64 z65 z66 z67 z68 z69 z70 z71 HRWg2 HGEg2 HBVg2
        refine GK _ _ ?_
        clear GK
        have HB2 := Lib.hid (HB1.out.trans (HBVg2.out.mono HB1.out.size))
        have HJ2 := Lib.hid ((HBVg2.out.block g1 (Array.getElem?_eq_some_iff.1 HRWg1.out).1).trans HRWg1.out)
        have HX2 := Lib.hid ((HBVg2.out.block _ (Array.getElem?_eq_some_iff.1 HX1.out).1).trans HX1.out)
        have hj3 := (rowc7 HJ2.out).2.2.2.2.2.1
        have hjl := (Array.getElem?_eq_some_iff.1 HJ2.out).1
        have HGN2 : Hid (∀ X, Below V2.heap.size V2 X → Calls Tryz.prog 75 #[.pointer (some ⟨b, 0, none⟩), .string j_on] X (RetBelow (.tuple #[.agg #[.string n_s, .int .i64 n_a, .int .i64 n_b, .int .i64 n_c, .int .i64 n_x, .int .i64 n_y, .int .i64 n_z, .int .i64 n_n, .bool n_d], .bool FN]) X)) := Lib.hid fun X hX => HGN.out X (HB2.out.trans (hX.mono HB2.out.size))
        go_wp2_with fail
        rename_i KE EK
        have EKK : ∀ (g3 : Nat) (V3 : World) (z2 z11 z12 z13 z14 z15 z16 z17 z18 z19 z20 z21 z22 z23 z24 z25 z26 z27 z28 z29 z30 z31 z32 z33 z34 z35 z36 z37 z38 z39 z40 z41 z42 z43 z44 z45 z46 z47 z48 z49 z50 z51 z52 z53 z54 z55 z56 z57 z58 z59 z60 z61 z62 z63 z64 z65 z66 z67 z68 z69 z70 z71 : Value), Hid (V3.heap[g3]? = some (.cells #[.string n_s, .int .i64 n_a, .int .i64 n_b, .int .i64 n_c, .int .i64 n_x, .int .i64 n_y, .int .i64 n_z, .int .i64 n_n, .bool n_d] 99 (0, 0))) → Hid (V2.heap.size ≤ g3) → Hid (Below V2.heap.size V2 V3) → KE { tmps := #[.pointer (some ⟨b, 0, none⟩), .agg #[.int .i64 co, .string cS, .string cT, .int .i64 p, .int .i64 q, .int .i64 r, .int .i64 cn], z2, .pointer (some ⟨w.heap.size, 0, none⟩), .pointer (some ⟨w.heap.size + 1, 0, none⟩), .pointer (some ⟨g1, 0, none⟩), .bool true, .pointer (some ⟨g2, 0, none⟩), .bool FT, .pointer (some ⟨g3, 0, none⟩), .bool FN, z11, z12, z13, z14, z15, z16, z17, z18, z19, z20, z21, z22, z23, z24, z25, z26, z27, z28, z29, z30, z31, z32, z33, z34, z35, z36, z37, z38, z39, z40, z41, z42, z43, z44, z45, z46, z47, z48, z49, z50, z51, z52, z53, z54, z55, z56, z57, z58, z59, z60, z61, z62, z63, z64, z65, z66, z67, z68, z69, z70, z71], defers := [] } V3 := by
          intro g3 V3 z2 z11 z12 z13 z14 z15 z16 z17 z18 z19 z20 z21 z22 z23 z24 z25 z26 z27 z28 z29 z30 z31 z32 z33 z34 z35 z36 z37 z38 z39 z40 z41 z42 z43 z44 z45 z46 z47 z48 z49 z50 z51 z52 z53 z54 z55 z56 z57 z58 z59 z60 z61 z62 z63 z64 z65 z66 z67 z68 z69 z70 z71 HRWg3 HGEg3 HBVg3
          refine EK _ _ ?_
          clear EK
          have HB3 := Lib.hid (HB2.out.trans (HBVg3.out.mono HB2.out.size))
          have HJ3 := Lib.hid ((HBVg3.out.block g1 (Array.getElem?_eq_some_iff.1 HJ2.out).1).trans HJ2.out)
          have HT3 := Lib.hid ((HBVg3.out.block g2 (Array.getElem?_eq_some_iff.1 HRWg2.out).1).trans HRWg2.out)
          have HX3 := Lib.hid ((HBVg3.out.block _ (Array.getElem?_eq_some_iff.1 HX2.out).1).trans HX2.out)
          have H12 := Lib.hid (show g1 < g2 from Nat.lt_of_lt_of_le (Array.getElem?_eq_some_iff.1 HRWg1.out).1 HGEg2.out)
          have H23 := Lib.hid (show g2 < g3 from Nat.lt_of_lt_of_le (Array.getElem?_eq_some_iff.1 HRWg2.out).1 HGEg3.out)
          have HRM := Lib.hid (show RmC V3 g2 t_a t_b t_c t_x t_y t_z t_n from by
            obtain ⟨r0, r1, r2, r3, r4, r5, r6, r7, _⟩ := rowc8 HT3.out
            exact ⟨r1, r2, r3, r4, r5, r6, r7, fun o => Lib.frozen_of_heap HT3.out o⟩)
          obtain ⟨_, _, k2, k3, k4, _, _⟩ := rowc7 HJ3.out
          go_wp2_with (first | (go_at_call 88; (with_reducible refine (HTK.out g2 _ HRM.out).mono ?_); rintro e w1' ⟨rfl, w1, hb, rfl⟩; have HB4 := Lib.hid (setUsed_below tX tY tZ tN (HB3.out.trans (hb.mono HB3.out.size)) (show w.heap.size ≤ g2 by have := HG1.out; have := H12.out; omega)); have HT4 := Lib.hid (setUsed_row8 tX tY tZ tN ((hb.block g2 (Array.getElem?_eq_some_iff.1 HT3.out).1).trans HT3.out)); have HJ4 := Lib.hid ((setUsed_far (g := g2) tX tY tZ tN (show g1 ≠ g2 by have := H12.out; omega)).trans ((hb.block _ (Array.getElem?_eq_some_iff.1 HJ3.out).1).trans HJ3.out)); have HN4 := Lib.hid ((setUsed_far (g := g2) tX tY tZ tN (show g3 ≠ g2 by have := H23.out; omega)).trans ((hb.block _ (Array.getElem?_eq_some_iff.1 HRWg3.out).1).trans HRWg3.out)); have HX4 := Lib.hid ((setUsed_far (g := g2) tX tY tZ tN (show w.heap.size + 1 ≠ g2 by have := HG1.out; have := H12.out; omega)).trans ((hb.block _ (Array.getElem?_eq_some_iff.1 HX3.out).1).trans HX3.out)); generalize setUsed w1 g2 tX tY tZ tN = W2 at *; clear hb k2 k3 k4; obtain ⟨_, _, k2, k3, k4, _, _⟩ := rowc7 HJ4.out; have HRN := Lib.hid (show RmC W2 g3 n_a n_b n_c n_x n_y n_z n_n from rmc9 HN4.out)) | (go_at_call 88; (with_reducible refine (HNK.out g3 _ HRN.out).mono ?_); rintro e w1' ⟨rfl, w1, hb, rfl⟩; have HB5 := Lib.hid (setUsed_below nX nY nZ nN (HB4.out.trans (hb.mono HB4.out.size)) (show w.heap.size ≤ g3 by have := HG1.out; have := H12.out; have := H23.out; omega)); have HN5 := Lib.hid (setUsed_row9 nX nY nZ nN ((hb.block g3 (Array.getElem?_eq_some_iff.1 HN4.out).1).trans HN4.out)); have HJ5 := Lib.hid ((setUsed_far (g := g3) nX nY nZ nN (show g1 ≠ g3 by have := H12.out; have := H23.out; omega)).trans ((hb.block _ (Array.getElem?_eq_some_iff.1 HJ4.out).1).trans HJ4.out)); have HT5 := Lib.hid ((setUsed_far (g := g3) nX nY nZ nN (show g2 ≠ g3 by have := H23.out; omega)).trans ((hb.block _ (Array.getElem?_eq_some_iff.1 HT4.out).1).trans HT4.out)); have HX5 := Lib.hid ((setUsed_far (g := g3) nX nY nZ nN (show w.heap.size + 1 ≠ g3 by have := HG1.out; have := H12.out; have := H23.out; omega)).trans ((hb.block _ (Array.getElem?_eq_some_iff.1 HX4.out).1).trans HX4.out)); generalize setUsed w1 g3 nX nY nZ nN = W3 at *; clear hb k2 k3 k4))
          obtain ⟨q0, q1, q2, q3, q4, q5, q6, q7, q8, q9, q10, q11, q12, q13, q14, q15⟩ := rowc8 HT5.out
          go_still_tail 6, (by kernel_rfl)
          change wpList _ _ _ _ _ W3.drew
          go_wp2_with (first | (go_at_call 84; (with_reducible refine (HP1.out W3 _ HB5.out (Below.refl _ _).drew).mono ?_); rintro e X1 ⟨rfl, hP⟩; have HQ1 := Lib.hid hP; clear hP; clear q0 q1 q2 q3 q4 q5 q6 q7 q8 q9 q10 q11 q12 q13 q14 q15; have HE1 := Lib.hid (HFr.out W3 X1 (.inl HQ1.out)); have HN6 := Lib.hid ((HE1.out.1 g3 (by have := HG1.out; have := H12.out; have := H23.out; omega) (Array.getElem?_eq_some_iff.1 HN5.out).1).trans HN5.out); obtain ⟨r0, r1, r2, r3, r4, r5, r6, r7, r8, r9, r10, r11, r12, r13, r14, r15, r16, r17⟩ := rowc9 HN6.out))
          go_still_tail 6, (by kernel_rfl)
          change wpList _ _ _ _ _ X1.drew
          go_wp2_with (first | (go_at_call 81; (with_reducible refine (HP2.out W3 X1 _ HB5.out HQ1.out (Below.refl _ _).drew).mono ?_); rintro e X2 ⟨rfl, hP⟩; have HQ2 := Lib.hid hP; clear hP; clear r0 r1 r2 r3 r4 r5 r6 r7 r8 r9 r10 r11 r12 r13 r14 r15 r16 r17; have HE2 := Lib.hid (HFr.out W3 X2 (.inr (.inl HQ2.out))); have HJ6 := Lib.hid ((HE2.out.1 g1 (by have := HG1.out; omega) (Array.getElem?_eq_some_iff.1 HJ5.out).1).trans HJ5.out); obtain ⟨s0, _⟩ := rowc7 HJ6.out))
          go_still_tail 5, (by kernel_rfl)
          change wpList _ _ _ _ _ X2.drew
          have hbd := HBD.out
          go_wp2_with (first | (go_at_call 89; (with_reducible refine (HP4.out W3 X2 _ HB5.out HQ2.out (Below.refl _ _).drew).mono ?_); rintro e X3 ⟨rfl, hP⟩; have HQ3 := Lib.hid hP; clear hP; clear s0; have HE3 := Lib.hid (HFr.out W3 X3 (.inr (.inr HQ3.out))); have HJ7 := Lib.hid ((HE3.out.1 g1 (by have := HG1.out; omega) (Array.getElem?_eq_some_iff.1 HJ5.out).1).trans HJ5.out); have HX7 := Lib.hid ((HE3.out.1 (w.heap.size + 1) (by omega) (Array.getElem?_eq_some_iff.1 HX5.out).1).trans HX5.out); obtain ⟨_, _, _, _, _, s5, _⟩ := rowc7 HJ7.out; obtain ⟨x0, x1, x2, x3, x4, x5, _⟩ := rowc6 HX7.out))
          refine (show bodyPost Tryz.prog Tryz.f42 _ Exit.ret _ (wr6 X3 (w.heap.size + 1) (.int .i64 0) (.string j_on) (.int .i64 0) (.int .i64 0) (.int .i64 0) (.int .i64 0)) from ?_)
          have R := wr6_row (a0 := .int .i64 0) (a1 := .string j_on) (a2 := .int .i64 0) (a3 := .int .i64 0) (a4 := .int .i64 0) (a5 := .int .i64 0) HX7.out
          have FF := wr6_fr X3 (w.heap.size + 1) (.int .i64 0) (.string j_on) (.int .i64 0) (.int .i64 0) (.int .i64 0) (.int .i64 0)
          generalize wr6 X3 (w.heap.size + 1) (.int .i64 0) (.string j_on) (.int .i64 0) (.int .i64 0) (.int .i64 0) (.int .i64 0) = W at *
          obtain ⟨y0, y1, y2, y3, y4, y5, _⟩ := rowc6 R
          refine bodyPost_ret (v := .agg #[.int .i64 0, .string j_on, .int .i64 0, .int .i64 0, .int .i64 0, .int .i64 0]) (by simp [results, Tryz.results42, go_sem, y0, y1, y2, y3, y4, y5]) rfl (.inr ⟨rfl, rfl, W3, X3, HB5.out, HQ3.out, (Array.getElem?_eq_some_iff.1 HX5.out).1, FF⟩)
        clear EK
        have EZ := Lib.hid (show (V2.drew.alloc (.cells #[.string ⟨#[]⟩, .int .i64 0, .int .i64 0, .int .i64 0, .int .i64 0, .int .i64 0, .int .i64 0, .int .i64 0, .bool false] 99)).heap[V2.heap.size]? = some (.cells #[.string ⟨#[]⟩, .int .i64 0, .int .i64 0, .int .i64 0, .int .i64 0, .int .i64 0, .int .i64 0, .int .i64 0, .bool false] 99 (0, 0)) from heap_alloc_new V2.drew (.cells #[.string ⟨#[]⟩, .int .i64 0, .int .i64 0, .int .i64 0, .int .i64 0, .int .i64 0, .int .i64 0, .int .i64 0, .bool false] 99))
        have EA := Lib.hid ((Below.refl V2.heap.size V2).alloc (Nat.le_refl _) (.cells #[.string ⟨#[]⟩, .int .i64 0, .int .i64 0, .int .i64 0, .int .i64 0, .int .i64 0, .int .i64 0, .int .i64 0, .bool false] 99)).drew
        have ED := Lib.hid (Below.refl V2.heap.size V2).drew
        go_region_with (first
          | (go_at_call 75; (with_reducible refine (HGN2.out _ ED.out).mono ?_); rintro e w1 ⟨rfl, hb⟩; have hb2 := Lib.hid (ED.out.trans hb))
          | (go_at_call 75; (with_reducible refine (HGN2.out _ EA.out).mono ?_); rintro e w1 ⟨rfl, hb⟩; have FR := Lib.hid ((hb.block V2.heap.size (by simp)).trans EZ.out); obtain ⟨q0, q1, q2, q3, q4, q5, q6, q7, q8, q9, q10, q11, q12, q13, q14, q15, q16, q17⟩ := rowc9 FR.out; have hb2 := Lib.hid (EA.out.trans (hb.mono (by simp)))))
        all_goals go_simp
        all_goals first
          | (with_reducible exact EKK w1.heap.size _ _ _ _ _ _ _ _ _ _ _ _ _ _ _ _ _ _ _ _ _ _ _ _ _ _ _ _ _ _ _ _ _ _ _ _ _ _ _ _ _ _ _ _ _ _ _ _ _ _ _ _ _ _ _ _ _ _ _ _ _ _ _ (Lib.hid (heap_alloc_new w1 _)) (Lib.hid hb2.out.size) (Lib.hid (hb2.out.alloc hb2.out.size _)))
          | exact EKK V2.heap.size _ _ _ _ _ _ _ _ _ _ _ _ _ _ _ _ _ _ _ _ _ _ _ _ _ _ _ _ _ _ _ _ _ _ _ _ _ _ _ _ _ _ _ _ _ _ _ _ _ _ _ _ _ _ _ _ _ _ _ _ _ _ _ (Lib.hid (wr9_row FR.out)) (Lib.hid (Nat.le_refl _)) (Lib.hid (wr9_below hb2.out (Nat.le_refl _)))
      clear GK
      have GZ := Lib.hid (show (V1.drew.alloc (.cells #[.string ⟨#[]⟩, .int .i64 0, .int .i64 0, .int .i64 0, .int .i64 0, .int .i64 0, .int .i64 0, .int .i64 0] 104)).heap[V1.heap.size]? = some (.cells #[.string ⟨#[]⟩, .int .i64 0, .int .i64 0, .int .i64 0, .int .i64 0, .int .i64 0, .int .i64 0, .int .i64 0] 104 (0, 0)) from heap_alloc_new V1.drew (.cells #[.string ⟨#[]⟩, .int .i64 0, .int .i64 0, .int .i64 0, .int .i64 0, .int .i64 0, .int .i64 0, .int .i64 0] 104))
      have GA := Lib.hid ((Below.refl V1.heap.size V1).alloc (Nat.le_refl _) (.cells #[.string ⟨#[]⟩, .int .i64 0, .int .i64 0, .int .i64 0, .int .i64 0, .int .i64 0, .int .i64 0, .int .i64 0] 104)).drew
      have GD := Lib.hid (Below.refl V1.heap.size V1).drew
      go_region_with (first
        | (go_at_call 76; (with_reducible refine (HGT2.out _ GD.out).mono ?_); rintro e w1 ⟨rfl, hb⟩; have hb2 := Lib.hid (GD.out.trans hb))
        | (go_at_call 76; (with_reducible refine (HGT2.out _ GA.out).mono ?_); rintro e w1 ⟨rfl, hb⟩; have FR := Lib.hid ((hb.block V1.heap.size (by simp)).trans GZ.out); obtain ⟨q0, q1, q2, q3, q4, q5, q6, q7, q8, q9, q10, q11, q12, q13, q14, q15⟩ := rowc8 FR.out; have hb2 := Lib.hid (GA.out.trans (hb.mono (by simp)))))
      all_goals go_simp
      all_goals first
        | (with_reducible exact GKK w1.heap.size _ _ _ _ _ _ _ _ _ _ _ _ _ _ _ _ _ _ _ _ _ _ _ _ _ _ _ _ _ _ _ _ _ _ _ _ _ _ _ _ _ _ _ _ _ _ _ _ _ _ _ _ _ _ _ _ _ _ _ _ _ _ _ _ _ (Lib.hid (heap_alloc_new w1 _)) (Lib.hid hb2.out.size) (Lib.hid (hb2.out.alloc hb2.out.size _)))
        | exact GKK V1.heap.size _ _ _ _ _ _ _ _ _ _ _ _ _ _ _ _ _ _ _ _ _ _ _ _ _ _ _ _ _ _ _ _ _ _ _ _ _ _ _ _ _ _ _ _ _ _ _ _ _ _ _ _ _ _ _ _ _ _ _ _ _ _ _ _ _ (Lib.hid (wr8_row FR.out)) (Lib.hid (Nat.le_refl _)) (Lib.hid (wr8_below hb2.out (Nat.le_refl _)))
  clear HK
  have HZ := Lib.hid (show (W0.drew.alloc (.cells #[.string ⟨#[]⟩, .string ⟨#[]⟩, .int .i64 0, .int .i64 0, .int .i64 0, .string ⟨#[]⟩, .int .i64 0] 46)).heap[W0.heap.size]? = some (.cells #[.string ⟨#[]⟩, .string ⟨#[]⟩, .int .i64 0, .int .i64 0, .int .i64 0, .string ⟨#[]⟩, .int .i64 0] 46 (0, 0)) from heap_alloc_new W0.drew (.cells #[.string ⟨#[]⟩, .string ⟨#[]⟩, .int .i64 0, .int .i64 0, .int .i64 0, .string ⟨#[]⟩, .int .i64 0] 46))
  have HA := Lib.hid ((Below.refl W0.heap.size W0).alloc (Nat.le_refl _) (.cells #[.string ⟨#[]⟩, .string ⟨#[]⟩, .int .i64 0, .int .i64 0, .int .i64 0, .string ⟨#[]⟩, .int .i64 0] 46)).drew
  have HD := Lib.hid (Below.refl W0.heap.size W0).drew
  go_region_with (first
    | (go_at_call 74; (with_reducible refine (HGJ2.out _ HD.out).mono ?_); rintro e w1 ⟨rfl, hb⟩; have hb2 := Lib.hid (HD.out.trans hb))
    | (go_at_call 74; (with_reducible refine (HGJ2.out _ HA.out).mono ?_); rintro e w1 ⟨rfl, hb⟩; have FR := Lib.hid ((hb.block W0.heap.size (by simp)).trans HZ.out); obtain ⟨q0, q1, q2, q3, q4, q5, q6, q7, q8, q9, q10, q11, q12, q13⟩ := rowc7 FR.out; have hb2 := Lib.hid (HA.out.trans (hb.mono (by simp)))))
  all_goals go_simp
  all_goals first
    | (with_reducible exact HKK w1.heap.size _ _ _ _ _ _ _ _ _ _ _ _ _ _ _ _ _ _ _ _ _ _ _ _ _ _ _ _ _ _ _ _ _ _ _ _ _ _ _ _ _ _ _ _ _ _ _ _ _ _ _ _ _ _ _ _ _ _ _ _ _ _ _ _ _ _ _ (Lib.hid (heap_alloc_new w1 _)) (Lib.hid hb2.out.size) (Lib.hid (hb2.out.alloc hb2.out.size _)))
    | exact HKK W0.heap.size _ _ _ _ _ _ _ _ _ _ _ _ _ _ _ _ _ _ _ _ _ _ _ _ _ _ _ _ _ _ _ _ _ _ _ _ _ _ _ _ _ _ _ _ _ _ _ _ _ _ _ _ _ _ _ _ _ _ _ _ _ _ _ _ _ _ _ (Lib.hid (wr7_row FR.out)) (Lib.hid (Nat.le_refl _)) (Lib.hid (wr7_below hb2.out (Nat.le_refl _)))
end Go.Proofs.YtphclpjekpdifaaGreat
