/-
  The document's own answer on which order any data is, walked: data of five parts. Condition: the data has at most 2^48 bytes.
-/
import Derived.Test.YtebacdegjmcnlaaGreatQDb
namespace Go.Proofs.YtebacdegjmcnlaaGreat
set_option maxRecDepth 20000
open Go.RowKit Pl
set_option linter.unusedVariables false
def wrC (w : World) (R : Nat) (b4 b5 b6 b7 b8 b9 b10 : Value) : World := (((((((w.setCell ⟨R, 4, none⟩ b4).setCell ⟨R, 5, none⟩ b5).setCell ⟨R, 6, none⟩ b6).setCell ⟨R, 7, none⟩ b7).setCell ⟨R, 8, none⟩ b8).setCell ⟨R, 9, none⟩ b9).setCell ⟨R, 10, none⟩ b10)
theorem wrC_row {w : World} {R : Nat} {b0 b1 b2 b3 b4 b5 b6 b7 b8 b9 b10 y4 y5 y6 y7 y8 y9 y10 : Value} {t : TypeId} (h : w.heap[R]? = some (.cells #[b0, b1, b2, b3, y4, y5, y6, y7, y8, y9, y10] t (0, 0))) : (wrC w R b4 b5 b6 b7 b8 b9 b10).heap[R]? = some (.cells #[b0, b1, b2, b3, b4, b5, b6, b7, b8, b9, b10] t (0, 0)) := by
  have h4 := heap_set _ R 4 b4 _ _ h
  have h5 := heap_set _ R 5 b5 _ _ h4
  have h6 := heap_set _ R 6 b6 _ _ h5
  have h7 := heap_set _ R 7 b7 _ _ h6
  have h8 := heap_set _ R 8 b8 _ _ h7
  have h9 := heap_set _ R 9 b9 _ _ h8
  have h10 := heap_set _ R 10 b10 _ _ h9
  unfold wrC
  simpa only [List.setIfInBounds_toArray, List.set_cons_zero, List.set_cons_succ] using h10
theorem wrC_below {w0 w : World} {B R : Nat} {b4 b5 b6 b7 b8 b9 b10 : Value} (h : Below B w0 w) (hR : B ≤ R) : Below B w0 (wrC w R b4 b5 b6 b7 b8 b9 b10) := by
  have h4 := h.setCell (p := ⟨R, 4, none⟩) hR b4
  have h5 := h4.setCell (p := ⟨R, 5, none⟩) hR b5
  have h6 := h5.setCell (p := ⟨R, 6, none⟩) hR b6
  have h7 := h6.setCell (p := ⟨R, 7, none⟩) hR b7
  have h8 := h7.setCell (p := ⟨R, 8, none⟩) hR b8
  have h9 := h8.setCell (p := ⟨R, 9, none⟩) hR b9
  have h10 := h9.setCell (p := ⟨R, 10, none⟩) hR b10
  exact h10
theorem len22 {x : List Value} (h : x.length = 22) : ∃ z0 z1 z2 z3 z4 z5 z6 z7 z8 z9 z10 z11 z12 z13 z14 z15 z16 z17 z18 z19 z20 z21, x = [z0, z1, z2, z3, z4, z5, z6, z7, z8, z9, z10, z11, z12, z13, z14, z15, z16, z17, z18, z19, z20, z21] := by
  obtain ⟨z0, x0, e0, h0⟩ := cons_of h
  obtain ⟨z1, x1, e1, h1⟩ := cons_of h0
  obtain ⟨z2, x2, e2, h2⟩ := cons_of h1
  obtain ⟨z3, x3, e3, h3⟩ := cons_of h2
  obtain ⟨z4, x4, e4, h4⟩ := cons_of h3
  obtain ⟨z5, x5, e5, h5⟩ := cons_of h4
  obtain ⟨z6, x6, e6, h6⟩ := cons_of h5
  obtain ⟨z7, x7, e7, h7⟩ := cons_of h6
  obtain ⟨z8, x8, e8, h8⟩ := cons_of h7
  obtain ⟨z9, x9, e9, h9⟩ := cons_of h8
  obtain ⟨z10, x10, e10, h10⟩ := cons_of h9
  obtain ⟨z11, x11, e11, h11⟩ := cons_of h10
  obtain ⟨z12, x12, e12, h12⟩ := cons_of h11
  obtain ⟨z13, x13, e13, h13⟩ := cons_of h12
  obtain ⟨z14, x14, e14, h14⟩ := cons_of h13
  obtain ⟨z15, x15, e15, h15⟩ := cons_of h14
  obtain ⟨z16, x16, e16, h16⟩ := cons_of h15
  obtain ⟨z17, x17, e17, h17⟩ := cons_of h16
  obtain ⟨z18, x18, e18, h18⟩ := cons_of h17
  obtain ⟨z19, x19, e19, h19⟩ := cons_of h18
  obtain ⟨z20, x20, e20, h20⟩ := cons_of h19
  obtain ⟨z21, x21, e21, h21⟩ := cons_of h20
  exact ⟨z0, z1, z2, z3, z4, z5, z6, z7, z8, z9, z10, z11, z12, z13, z14, z15, z16, z17, z18, z19, z20, z21, by rw [e0, e1, e2, e3, e4, e5, e6, e7, e8, e9, e10, e11, e12, e13, e14, e15, e16, e17, e18, e19, e20, e21, nil_of h21]⟩
set_option maxHeartbeats 8000000 in
theorem rdec_good (D : ByteArray) (n C : Nat) (x0 x1 x2 x3 x4 : It) (N0 N1 N2 N3 : Int) (E : ByteArray) (er : Int) (o : Int) (s t : ByteArray) (a b c m : Int) (cn : Int) (w W : World) (hD : (D.toList == []) = false) (hkind : 1 ≤ numP x0 ∧ numP x0 ≤ 5)
    (h7 : (convert 9 58 (.string D)).run Tryz.prog (w.alloc (.cells #[.int .i64 0, .int .i64 0, .int .i64 0, .int .i64 0, .int .i64 0, .string ⟨#[]⟩, .string ⟨#[]⟩, .int .i64 0, .int .i64 0, .int .i64 0, .int .i64 0] 34)) = .ok (.slice (some ⟨w.heap.size + 1, 0, none⟩) n C) W) (HBW : Hid (Below (w.heap.size + 1) (w.alloc (.cells #[.int .i64 0, .int .i64 0, .int .i64 0, .int .i64 0, .int .i64 0, .string ⟨#[]⟩, .string ⟨#[]⟩, .int .i64 0, .int .i64 0, .int .i64 0, .int .i64 0] 34)) W))
    (HD : Hid (Calls Tryz.prog 23 #[.slice (some ⟨w.heap.size + 1, 0, none⟩) n C] W (Dec1 W [x0, x1, x2, x3, x4] 0)))
    (HC : Hid (∀ X, Calls Tryz.prog 25 #[.string (Nm.str (txP x4))] X fun e Y => e = .returned (.tuple #[.agg #[.int .i64 o, .string s, .string t, .int .i64 a, .int .i64 b, .int .i64 c, .int .i64 m], .int .i64 cn]) ∧ Below X.heap.size X Y))
    (hcn : cn ≠ 0 → (o, s, t, a, b, c, m) = ((0 : Int), (⟨#[]⟩ : ByteArray), (⟨#[]⟩ : ByteArray), (0 : Int), (0 : Int), (0 : Int), (0 : Int)))
    (HEN : Hid (∀ X, Calls Tryz.prog 26 #[.agg #[.int .i64 N0, .int .i64 N1, .int .i64 N2, .int .i64 N3, .int .i64 o, .string s, .string t, .int .i64 a, .int .i64 b, .int .i64 c, .int .i64 m]] X (RetBelow (.tuple #[.string E, .int .i64 er]) X))) (hN : numP x0 = N0 ∧ numP x1 = N1 ∧ numP x2 = N2 ∧ numP x3 = N3) :
    Calls Tryz.prog 14 #[.string D] w (RetBelow (.tuple #[if er = 0 ∧ E = D then .agg #[.int .i64 N0, .int .i64 N1, .int .i64 N2, .int .i64 N3, .int .i64 o, .string s, .string t, .int .i64 a, .int .i64 b, .int .i64 c, .int .i64 m] else .agg #[.int .i64 0, .int .i64 0, .int .i64 0, .int .i64 0, .int .i64 0, .string ⟨#[]⟩, .string ⟨#[]⟩, .int .i64 0, .int .i64 0, .int .i64 0, .int .i64 0], .int .i64 (if er = 0 ∧ E = D then 0 else 4)]) w) := by
  have HNN := Lib.hid hN
  have HCN := Lib.hid hcn
  clear hN hcn
  obtain ⟨RV, hRV⟩ : ∃ RV, RV = Value.tuple #[if er = 0 ∧ E = D then .agg #[.int .i64 N0, .int .i64 N1, .int .i64 N2, .int .i64 N3, .int .i64 o, .string s, .string t, .int .i64 a, .int .i64 b, .int .i64 c, .int .i64 m] else .agg #[.int .i64 0, .int .i64 0, .int .i64 0, .int .i64 0, .int .i64 0, .string ⟨#[]⟩, .string ⟨#[]⟩, .int .i64 0, .int .i64 0, .int .i64 0, .int .i64 0], .int .i64 (if er = 0 ∧ E = D then 0 else 4)] := ⟨_, rfl⟩
  rw [← hRV]
  have HRV := Lib.hid hRV
  clear hRV
  have hbd : ∀ W : World, (Instr.build 34 #[]).run Tryz.prog W = .ok (.agg #[.int .i64 0, .int .i64 0, .int .i64 0, .int .i64 0, .int .i64 0, .string ⟨#[]⟩, .string ⟨#[]⟩, .int .i64 0, .int .i64 0, .int .i64 0, .int .i64 0]) W := fun W => run_build W 34 _ _ (by kernel_rfl)
  have HB0 := Lib.hid ((Below.refl w.heap.size w).alloc (Nat.le_refl _) (.cells #[.int .i64 0, .int .i64 0, .int .i64 0, .int .i64 0, .int .i64 0, .string ⟨#[]⟩, .string ⟨#[]⟩, .int .i64 0, .int .i64 0, .int .i64 0, .int .i64 0] 34))
  have HR0 := Lib.hid (heap_alloc_new w (.cells #[.int .i64 0, .int .i64 0, .int .i64 0, .int .i64 0, .int .i64 0, .string ⟨#[]⟩, .string ⟨#[]⟩, .int .i64 0, .int .i64 0, .int .i64 0, .int .i64 0] 34))
  have HB1 : Hid (Below w.heap.size w W) := Lib.hid (HB0.out.trans (HBW.out.mono (Nat.le_succ _)))
  have HR1 := Lib.hid ((HBW.out.block w.heap.size (by omega)).trans HR0.out)
  have HL1 : Hid (w.heap.size < W.heap.size) := Lib.hid (Array.getElem?_eq_some_iff.1 HR1.out).1
  have HF := Lib.hid fun X => within_any 1 (numP x0) 5 X
  have eF : (decide (1 ≤ numP x0) && decide (numP x0 ≤ 5)) = true := by rw [decide_eq_true hkind.1, decide_eq_true hkind.2]; rfl
  rw [eF] at HF
  clear eF hkind
  go_enter Tryz.func14, Tryz.ntmps14
  go_wp2_with (first
    | (go_at_call 24; (with_reducible refine (HF.out _).mono ?_); rintro e w3 ⟨rfl, hb3⟩
       have HB3 := Lib.hid (HB2.out.trans (hb3.mono HB2.out.size))
       have HR3 := Lib.hid ((hb3.block w.heap.size (Array.getElem?_eq_some_iff.1 HR2.out).1).trans HR2.out)
       have HI3 := Lib.hid ((hb3.block w2.heap.size (Array.getElem?_eq_some_iff.1 HI2.out).1).trans HI2.out)
       have HX3 := Lib.hid fun j x (hx : [x0, x1, x2, x3, x4][j]? = some x) => (⟨(hb3.cell (p := ⟨bb, oo + j * 4 + 1, none⟩) HBB.out).trans (HX2.out j x hx).1, (hb3.cell (p := ⟨bb, oo + j * 4 + 2, none⟩) HBB.out).trans (HX2.out j x hx).2⟩ : w3.cell? ⟨bb, oo + j * 4 + 1, none⟩ = some (.int .i64 (numP x)) ∧ w3.cell? ⟨bb, oo + j * 4 + 2, none⟩ = some (.string (Nm.str (txP x))))
       have HS3 := Lib.hid hb3.size
       clear hb3)
    | (go_at_call 23; (with_reducible refine HD.out.mono ?_); rintro e w2 ⟨hb2, kk, nn, ss, AA, cc, rfl, hal⟩
       simp only [List.length_cons, List.length_nil, Nat.zero_add, Nat.reduceAdd]
       obtain ⟨bb, oo, rfl, hbb, hcs⟩ := cells5 hal (by simp)
       have HB2 := Lib.hid ((HB1.out.trans (hb2.mono HB1.out.size)).alloc (by have := HB1.out.size; have := hb2.size; omega) (.cells #[.int .i64 kk, .int .i64 nn, .string ss, .slice (some ⟨bb, oo, none⟩) 5 cc] 50))
       have HR2 := Lib.hid ((Below.heap_alloc w2 (.cells #[.int .i64 kk, .int .i64 nn, .string ss, .slice (some ⟨bb, oo, none⟩) 5 cc] 50) w.heap.size (Nat.lt_of_lt_of_le HL1.out hb2.size)).trans ((hb2.block w.heap.size HL1.out).trans HR1.out))
       have HI2 := Lib.hid (heap_alloc_new w2 (.cells #[.int .i64 kk, .int .i64 nn, .string ss, .slice (some ⟨bb, oo, none⟩) 5 cc] 50))
       obtain ⟨j0, j1, j2, j3, _⟩ := row4 HI2.out
       have HBB : Hid (bb < (w2.alloc (.cells #[.int .i64 kk, .int .i64 nn, .string ss, .slice (some ⟨bb, oo, none⟩) 5 cc] 50)).heap.size) := Lib.hid (by simp; exact Nat.lt_succ_of_lt hbb.2)
       have HX2 : Hid (∀ j x, [x0, x1, x2, x3, x4][j]? = some x → (w2.alloc (.cells #[.int .i64 kk, .int .i64 nn, .string ss, .slice (some ⟨bb, oo, none⟩) 5 cc] 50)).cell? ⟨bb, oo + j * 4 + 1, none⟩ = some (.int .i64 (numP x)) ∧ (w2.alloc (.cells #[.int .i64 kk, .int .i64 nn, .string ss, .slice (some ⟨bb, oo, none⟩) 5 cc] 50)).cell? ⟨bb, oo + j * 4 + 2, none⟩ = some (.string (Nm.str (txP x)))) := Lib.hid fun j x hx => ⟨(((Below.refl w2.heap.size w2).alloc (Nat.le_refl _) _).cell (p := ⟨bb, oo + j * 4 + 1, none⟩) hbb.2).trans (hcs j x hx).1, (((Below.refl w2.heap.size w2).alloc (Nat.le_refl _) _).cell (p := ⟨bb, oo + j * 4 + 2, none⟩) hbb.2).trans (hcs j x hx).2⟩
       have hn0 : (w2.alloc (.cells #[.int .i64 kk, .int .i64 nn, .string ss, .slice (some ⟨bb, oo, none⟩) 5 cc] 50)).cell? ⟨bb, oo + 1, none⟩ = some (.int .i64 (numP x0)) := by simpa using (HX2.out 0 x0 rfl).1
       clear hb2 hal hcs))
  all_goals
    have hlen : bb < w3.heap.size := Nat.lt_of_lt_of_le HBB.out HS3.out
    have hI : w2.heap.size < w3.heap.size := (Array.getElem?_eq_some_iff.1 HI3.out).1
    obtain ⟨j0, j1, j2, j3, _⟩ := row4 HI3.out
    have HN0 : Hid (∀ X, Below w3.heap.size w3 X → X.cell? ⟨bb, oo + 1, none⟩ = some (.int .i64 N0)) := Lib.hid fun X hX => (hX.cell (p := ⟨bb, oo + 1, none⟩) hlen).trans (by rw [← HNN.out.1]; simpa using (HX3.out 0 x0 rfl).1)
    have HN1 : Hid (∀ X, Below w3.heap.size w3 X → X.cell? ⟨bb, oo + 5, none⟩ = some (.int .i64 N1)) := Lib.hid fun X hX => (hX.cell (p := ⟨bb, oo + 5, none⟩) hlen).trans (by rw [← HNN.out.2.1]; simpa using (HX3.out 1 x1 rfl).1)
    have HN2 : Hid (∀ X, Below w3.heap.size w3 X → X.cell? ⟨bb, oo + 9, none⟩ = some (.int .i64 N2)) := Lib.hid fun X hX => (hX.cell (p := ⟨bb, oo + 9, none⟩) hlen).trans (by rw [← HNN.out.2.2.1]; simpa using (HX3.out 2 x2 rfl).1)
    have HN3 : Hid (∀ X, Below w3.heap.size w3 X → X.cell? ⟨bb, oo + 13, none⟩ = some (.int .i64 N3)) := Lib.hid fun X hX => (hX.cell (p := ⟨bb, oo + 13, none⟩) hlen).trans (by rw [← HNN.out.2.2.2]; simpa using (HX3.out 3 x3 rfl).1)
    have HS4 : Hid (∀ X, Below w3.heap.size w3 X → X.cell? ⟨bb, oo + 18, none⟩ = some (.string (Nm.str (txP x4)))) := Lib.hid fun X hX => (hX.cell (p := ⟨bb, oo + 18, none⟩) hlen).trans (by simpa using (HX3.out 4 x4 rfl).2)
    have HII : Hid (∀ X, Below w3.heap.size w3 X → X.heap[w2.heap.size]? = some (.cells #[.int .i64 kk, .int .i64 nn, .string ss, .slice (some ⟨bb, oo, none⟩) 5 cc] 50 (0, 0))) := Lib.hid fun X hX => (hX.block w2.heap.size hI).trans HI3.out
    have HRR : Hid (∀ X, Below w3.heap.size w3 X → X.heap[w.heap.size]? = some (.cells #[.int .i64 0, .int .i64 0, .int .i64 0, .int .i64 0, .int .i64 0, .string ⟨#[]⟩, .string ⟨#[]⟩, .int .i64 0, .int .i64 0, .int .i64 0, .int .i64 0] 34 (0, 0))) := Lib.hid fun X hX => (hX.block w.heap.size (Array.getElem?_eq_some_iff.1 HR3.out).1).trans HR3.out
    have HRLT : Hid (w.heap.size < w3.heap.size) := Lib.hid (Array.getElem?_eq_some_iff.1 HR3.out).1
    have HB4 : Hid (∀ V : World, (Instr.build 34 #[(0, .int .i64 N0), (1, .int .i64 N1), (2, .int .i64 N2), (3, .int .i64 N3)]).run Tryz.prog V = .ok (.agg #[.int .i64 N0, .int .i64 N1, .int .i64 N2, .int .i64 N3, .int .i64 0, .string ⟨#[]⟩, .string ⟨#[]⟩, .int .i64 0, .int .i64 0, .int .i64 0, .int .i64 0]) V) := Lib.hid fun V => run_build V 34 _ _ (by kernel_rfl)
    clear j0 j1 j2 j3 HX2 HX3 HI2 HI3 HR2 HR3 HBB HS3 hn0
    refine wp_region_mono 22 [38, 39, 40, 41, 42, 43, 44, 45, 46, 47, 48, 49, 50, 51, 52, 53, 54, 55, 56, 57, 58, 6] (fun i u w => match i with | 0 => u = .pointer (some ⟨w2.heap.size, 3, none⟩) | 1 => u = .slice (some ⟨bb, oo, none⟩) 5 cc | 2 => u = .pointer (some ⟨bb, oo, none⟩) | 3 => u = .pointer (some ⟨bb, oo + 1, none⟩) | 4 => u = .int .i64 N0 | 5 => u = .pointer (some ⟨w2.heap.size, 3, none⟩) | 6 => u = .slice (some ⟨bb, oo, none⟩) 5 cc | 7 => u = .pointer (some ⟨bb, oo + 4, none⟩) | 8 => u = .pointer (some ⟨bb, oo + 5, none⟩) | 9 => u = .int .i64 N1 | 10 => u = .pointer (some ⟨w2.heap.size, 3, none⟩) | 11 => u = .slice (some ⟨bb, oo, none⟩) 5 cc | 12 => u = .pointer (some ⟨bb, oo + 8, none⟩) | 13 => u = .pointer (some ⟨bb, oo + 9, none⟩) | 14 => u = .int .i64 N2 | 15 => u = .pointer (some ⟨w2.heap.size, 3, none⟩) | 16 => u = .slice (some ⟨bb, oo, none⟩) 5 cc | 17 => u = .pointer (some ⟨bb, oo + 12, none⟩) | 18 => u = .pointer (some ⟨bb, oo + 13, none⟩) | 19 => u = .int .i64 N3 | 20 => u = .agg #[.int .i64 N0, .int .i64 N1, .int .i64 N2, .int .i64 N3, .int .i64 0, .string ⟨#[]⟩, .string ⟨#[]⟩, .int .i64 0, .int .i64 0, .int .i64 0, .int .i64 0] | 21 => ∃ p, u = .pointer (some ⟨p, 0, none⟩) ∧ w3.heap.size ≤ p ∧ w.heap[p]? = some (.cells #[.int .i64 0, .int .i64 0, .int .i64 0, .int .i64 0, .int .i64 0, .string ⟨#[]⟩, .string ⟨#[]⟩, .int .i64 0, .int .i64 0, .int .i64 0, .int .i64 0] 34 (0, 0)) | _ => True) (fun w => Below w3.heap.size w3 w) [undef, undef, undef, undef, undef, undef, undef, undef, undef, undef, undef, undef, undef, undef, undef, undef, undef, undef, undef, undef, undef, undef] (by kernel_rfl) (by kernel_rfl) (by kernel_rfl) rfl (Below.refl _ w3).drew ?hzV ?hzS ?hzT
    case hzV =>
      intro i v w w' hC h hB
      exact match i, h with
      | 0, h => h
      | 1, h => h
      | 2, h => h
      | 3, h => h
      | 4, h => h
      | 5, h => h
      | 6, h => h
      | 7, h => h
      | 8, h => h
      | 9, h => h
      | 10, h => h
      | 11, h => h
      | 12, h => h
      | 13, h => h
      | 14, h => h
      | 15, h => h
      | 16, h => h
      | 17, h => h
      | 18, h => h
      | 19, h => h
      | 20, h => h
      | 21, h => (fun ⟨p, e1, e2, e3⟩ => ⟨p, e1, e2, (hB.block p (Array.getElem?_eq_some_iff.1 e3).1).trans e3⟩) h
      | i + 22, h => trivial
    case hzS =>
      refine steps_cons (fun K' x hx w hC hd hK => ?_) ?_
      · obtain ⟨z0, z1, z2, z3, z4, z5, z6, z7, z8, z9, z10, z11, z12, z13, z14, z15, z16, z17, z18, z19, z20, z21, rfl⟩ := len22 hx
        clear hd hx
        simp only [putAll, Act.put, List.setIfInBounds_toArray, List.set_cons_zero, List.set_cons_succ] at hK ⊢
        go_simp
        exact hK _ _ rfl hC (Below.refl _ _)
      refine steps_cons (fun K' x hx w hC hd hK => ?_) ?_
      · obtain ⟨z0, z1, z2, z3, z4, z5, z6, z7, z8, z9, z10, z11, z12, z13, z14, z15, z16, z17, z18, z19, z20, z21, rfl⟩ := len22 hx
        obtain rfl : z0 = _ := hd 0 (by kernel_rfl)
        clear hd hx
        simp only [putAll, Act.put, List.setIfInBounds_toArray, List.set_cons_zero, List.set_cons_succ] at hK ⊢
        obtain ⟨y0, y1, y2, y3, _⟩ := row4 (HII.out _ hC)
        go_simp
        exact hK _ _ rfl hC (Below.refl _ _)
      refine steps_cons (fun K' x hx w hC hd hK => ?_) ?_
      · obtain ⟨z0, z1, z2, z3, z4, z5, z6, z7, z8, z9, z10, z11, z12, z13, z14, z15, z16, z17, z18, z19, z20, z21, rfl⟩ := len22 hx
        obtain rfl : z1 = _ := hd 1 (by kernel_rfl)
        clear hd hx
        simp only [putAll, Act.put, List.setIfInBounds_toArray, List.set_cons_zero, List.set_cons_succ] at hK ⊢
        go_simp
        exact hK _ _ rfl hC (Below.refl _ _)
      refine steps_cons (fun K' x hx w hC hd hK => ?_) ?_
      · obtain ⟨z0, z1, z2, z3, z4, z5, z6, z7, z8, z9, z10, z11, z12, z13, z14, z15, z16, z17, z18, z19, z20, z21, rfl⟩ := len22 hx
        obtain rfl : z2 = _ := hd 2 (by kernel_rfl)
        clear hd hx
        simp only [putAll, Act.put, List.setIfInBounds_toArray, List.set_cons_zero, List.set_cons_succ] at hK ⊢
        go_simp
        exact hK _ _ rfl hC (Below.refl _ _)
      refine steps_cons (fun K' x hx w hC hd hK => ?_) ?_
      · obtain ⟨z0, z1, z2, z3, z4, z5, z6, z7, z8, z9, z10, z11, z12, z13, z14, z15, z16, z17, z18, z19, z20, z21, rfl⟩ := len22 hx
        obtain rfl : z3 = _ := hd 3 (by kernel_rfl)
        clear hd hx
        simp only [putAll, Act.put, List.setIfInBounds_toArray, List.set_cons_zero, List.set_cons_succ] at hK ⊢
        have hn := HN0.out _ hC
        go_simp
        exact hK _ _ rfl hC (Below.refl _ _)
      refine steps_cons (fun K' x hx w hC hd hK => ?_) ?_
      · obtain ⟨z0, z1, z2, z3, z4, z5, z6, z7, z8, z9, z10, z11, z12, z13, z14, z15, z16, z17, z18, z19, z20, z21, rfl⟩ := len22 hx
        clear hd hx
        simp only [putAll, Act.put, List.setIfInBounds_toArray, List.set_cons_zero, List.set_cons_succ] at hK ⊢
        go_simp
        exact hK _ _ rfl hC (Below.refl _ _)
      refine steps_cons (fun K' x hx w hC hd hK => ?_) ?_
      · obtain ⟨z0, z1, z2, z3, z4, z5, z6, z7, z8, z9, z10, z11, z12, z13, z14, z15, z16, z17, z18, z19, z20, z21, rfl⟩ := len22 hx
        obtain rfl : z5 = _ := hd 5 (by kernel_rfl)
        clear hd hx
        simp only [putAll, Act.put, List.setIfInBounds_toArray, List.set_cons_zero, List.set_cons_succ] at hK ⊢
        obtain ⟨y0, y1, y2, y3, _⟩ := row4 (HII.out _ hC)
        go_simp
        exact hK _ _ rfl hC (Below.refl _ _)
      refine steps_cons (fun K' x hx w hC hd hK => ?_) ?_
      · obtain ⟨z0, z1, z2, z3, z4, z5, z6, z7, z8, z9, z10, z11, z12, z13, z14, z15, z16, z17, z18, z19, z20, z21, rfl⟩ := len22 hx
        obtain rfl : z6 = _ := hd 6 (by kernel_rfl)
        clear hd hx
        simp only [putAll, Act.put, List.setIfInBounds_toArray, List.set_cons_zero, List.set_cons_succ] at hK ⊢
        go_simp
        exact hK _ _ rfl hC (Below.refl _ _)
      refine steps_cons (fun K' x hx w hC hd hK => ?_) ?_
      · obtain ⟨z0, z1, z2, z3, z4, z5, z6, z7, z8, z9, z10, z11, z12, z13, z14, z15, z16, z17, z18, z19, z20, z21, rfl⟩ := len22 hx
        obtain rfl : z7 = _ := hd 7 (by kernel_rfl)
        clear hd hx
        simp only [putAll, Act.put, List.setIfInBounds_toArray, List.set_cons_zero, List.set_cons_succ] at hK ⊢
        go_simp
        exact hK _ _ rfl hC (Below.refl _ _)
      refine steps_cons (fun K' x hx w hC hd hK => ?_) ?_
      · obtain ⟨z0, z1, z2, z3, z4, z5, z6, z7, z8, z9, z10, z11, z12, z13, z14, z15, z16, z17, z18, z19, z20, z21, rfl⟩ := len22 hx
        obtain rfl : z8 = _ := hd 8 (by kernel_rfl)
        clear hd hx
        simp only [putAll, Act.put, List.setIfInBounds_toArray, List.set_cons_zero, List.set_cons_succ] at hK ⊢
        have hn := HN1.out _ hC
        go_simp
        exact hK _ _ rfl hC (Below.refl _ _)
      refine steps_cons (fun K' x hx w hC hd hK => ?_) ?_
      · obtain ⟨z0, z1, z2, z3, z4, z5, z6, z7, z8, z9, z10, z11, z12, z13, z14, z15, z16, z17, z18, z19, z20, z21, rfl⟩ := len22 hx
        clear hd hx
        simp only [putAll, Act.put, List.setIfInBounds_toArray, List.set_cons_zero, List.set_cons_succ] at hK ⊢
        go_simp
        exact hK _ _ rfl hC (Below.refl _ _)
      refine steps_cons (fun K' x hx w hC hd hK => ?_) ?_
      · obtain ⟨z0, z1, z2, z3, z4, z5, z6, z7, z8, z9, z10, z11, z12, z13, z14, z15, z16, z17, z18, z19, z20, z21, rfl⟩ := len22 hx
        obtain rfl : z10 = _ := hd 10 (by kernel_rfl)
        clear hd hx
        simp only [putAll, Act.put, List.setIfInBounds_toArray, List.set_cons_zero, List.set_cons_succ] at hK ⊢
        obtain ⟨y0, y1, y2, y3, _⟩ := row4 (HII.out _ hC)
        go_simp
        exact hK _ _ rfl hC (Below.refl _ _)
      refine steps_cons (fun K' x hx w hC hd hK => ?_) ?_
      · obtain ⟨z0, z1, z2, z3, z4, z5, z6, z7, z8, z9, z10, z11, z12, z13, z14, z15, z16, z17, z18, z19, z20, z21, rfl⟩ := len22 hx
        obtain rfl : z11 = _ := hd 11 (by kernel_rfl)
        clear hd hx
        simp only [putAll, Act.put, List.setIfInBounds_toArray, List.set_cons_zero, List.set_cons_succ] at hK ⊢
        go_simp
        exact hK _ _ rfl hC (Below.refl _ _)
      refine steps_cons (fun K' x hx w hC hd hK => ?_) ?_
      · obtain ⟨z0, z1, z2, z3, z4, z5, z6, z7, z8, z9, z10, z11, z12, z13, z14, z15, z16, z17, z18, z19, z20, z21, rfl⟩ := len22 hx
        obtain rfl : z12 = _ := hd 12 (by kernel_rfl)
        clear hd hx
        simp only [putAll, Act.put, List.setIfInBounds_toArray, List.set_cons_zero, List.set_cons_succ] at hK ⊢
        go_simp
        exact hK _ _ rfl hC (Below.refl _ _)
      refine steps_cons (fun K' x hx w hC hd hK => ?_) ?_
      · obtain ⟨z0, z1, z2, z3, z4, z5, z6, z7, z8, z9, z10, z11, z12, z13, z14, z15, z16, z17, z18, z19, z20, z21, rfl⟩ := len22 hx
        obtain rfl : z13 = _ := hd 13 (by kernel_rfl)
        clear hd hx
        simp only [putAll, Act.put, List.setIfInBounds_toArray, List.set_cons_zero, List.set_cons_succ] at hK ⊢
        have hn := HN2.out _ hC
        go_simp
        exact hK _ _ rfl hC (Below.refl _ _)
      refine steps_cons (fun K' x hx w hC hd hK => ?_) ?_
      · obtain ⟨z0, z1, z2, z3, z4, z5, z6, z7, z8, z9, z10, z11, z12, z13, z14, z15, z16, z17, z18, z19, z20, z21, rfl⟩ := len22 hx
        clear hd hx
        simp only [putAll, Act.put, List.setIfInBounds_toArray, List.set_cons_zero, List.set_cons_succ] at hK ⊢
        go_simp
        exact hK _ _ rfl hC (Below.refl _ _)
      refine steps_cons (fun K' x hx w hC hd hK => ?_) ?_
      · obtain ⟨z0, z1, z2, z3, z4, z5, z6, z7, z8, z9, z10, z11, z12, z13, z14, z15, z16, z17, z18, z19, z20, z21, rfl⟩ := len22 hx
        obtain rfl : z15 = _ := hd 15 (by kernel_rfl)
        clear hd hx
        simp only [putAll, Act.put, List.setIfInBounds_toArray, List.set_cons_zero, List.set_cons_succ] at hK ⊢
        obtain ⟨y0, y1, y2, y3, _⟩ := row4 (HII.out _ hC)
        go_simp
        exact hK _ _ rfl hC (Below.refl _ _)
      refine steps_cons (fun K' x hx w hC hd hK => ?_) ?_
      · obtain ⟨z0, z1, z2, z3, z4, z5, z6, z7, z8, z9, z10, z11, z12, z13, z14, z15, z16, z17, z18, z19, z20, z21, rfl⟩ := len22 hx
        obtain rfl : z16 = _ := hd 16 (by kernel_rfl)
        clear hd hx
        simp only [putAll, Act.put, List.setIfInBounds_toArray, List.set_cons_zero, List.set_cons_succ] at hK ⊢
        go_simp
        exact hK _ _ rfl hC (Below.refl _ _)
      refine steps_cons (fun K' x hx w hC hd hK => ?_) ?_
      · obtain ⟨z0, z1, z2, z3, z4, z5, z6, z7, z8, z9, z10, z11, z12, z13, z14, z15, z16, z17, z18, z19, z20, z21, rfl⟩ := len22 hx
        obtain rfl : z17 = _ := hd 17 (by kernel_rfl)
        clear hd hx
        simp only [putAll, Act.put, List.setIfInBounds_toArray, List.set_cons_zero, List.set_cons_succ] at hK ⊢
        go_simp
        exact hK _ _ rfl hC (Below.refl _ _)
      refine steps_cons (fun K' x hx w hC hd hK => ?_) ?_
      · obtain ⟨z0, z1, z2, z3, z4, z5, z6, z7, z8, z9, z10, z11, z12, z13, z14, z15, z16, z17, z18, z19, z20, z21, rfl⟩ := len22 hx
        obtain rfl : z18 = _ := hd 18 (by kernel_rfl)
        clear hd hx
        simp only [putAll, Act.put, List.setIfInBounds_toArray, List.set_cons_zero, List.set_cons_succ] at hK ⊢
        have hn := HN3.out _ hC
        go_simp
        exact hK _ _ rfl hC (Below.refl _ _)
      refine steps_cons (fun K' x hx w hC hd hK => ?_) ?_
      · obtain ⟨z0, z1, z2, z3, z4, z5, z6, z7, z8, z9, z10, z11, z12, z13, z14, z15, z16, z17, z18, z19, z20, z21, rfl⟩ := len22 hx
        obtain rfl : z4 = _ := hd 4 (by kernel_rfl)
        obtain rfl : z9 = _ := hd 9 (by kernel_rfl)
        obtain rfl : z14 = _ := hd 14 (by kernel_rfl)
        obtain rfl : z19 = _ := hd 19 (by kernel_rfl)
        clear hd hx
        simp only [putAll, Act.put, List.setIfInBounds_toArray, List.set_cons_zero, List.set_cons_succ] at hK ⊢
        have hbq := HB4.out
        go_simp
        exact hK _ _ rfl hC (Below.refl _ _)
      refine steps_cons (fun K' x hx w hC hd hK => ?_) ?_
      · obtain ⟨z0, z1, z2, z3, z4, z5, z6, z7, z8, z9, z10, z11, z12, z13, z14, z15, z16, z17, z18, z19, z20, z21, rfl⟩ := len22 hx
        clear hd hx
        simp only [putAll, Act.put, List.setIfInBounds_toArray, List.set_cons_zero, List.set_cons_succ] at hK ⊢
        go_simp
        exact hK _ _ ⟨_, rfl, hC.size, heap_alloc_new _ _⟩ (hC.alloc hC.size _) ((Below.refl _ _).alloc (Nat.le_refl _) _)
      exact trivial
    case hzT =>
      intro x hx v hC hd
      obtain ⟨z0, z1, z2, z3, z4, z5, z6, z7, z8, z9, z10, z11, z12, z13, z14, z15, z16, z17, z18, z19, z20, z21, rfl⟩ := len22 hx
      have hz20 : z20 = _ := hd 20 (by omega)
      obtain ⟨p, hz21, hp, hrow⟩ := hd 21 (by omega)
      have hz21 : z21 = _ := hz21
      subst hz20 hz21
      clear hd hx
      simp only [putAll, Act.put, List.setIfInBounds_toArray, List.set_cons_zero, List.set_cons_succ]
      obtain ⟨q0, q1, q2, q3, q4, q5, q6, q7, q8, q9, q10, f0, f1, f2, f3, f4, f5, f6, f7, f8, f9, f10⟩ := row11f hrow
      have HPR := Lib.hid (wr11_row (a0 := .int .i64 N0) (a1 := .int .i64 N1) (a2 := .int .i64 N2) (a3 := .int .i64 N3) (a4 := .int .i64 0) (a5 := .string ⟨#[]⟩) (a6 := .string ⟨#[]⟩) (a7 := .int .i64 0) (a8 := .int .i64 0) (a9 := .int .i64 0) (a10 := .int .i64 0) hrow)
      have HPB := Lib.hid (wr11_below (a0 := .int .i64 N0) (a1 := .int .i64 N1) (a2 := .int .i64 N2) (a3 := .int .i64 N3) (a4 := .int .i64 0) (a5 := .string ⟨#[]⟩) (a6 := .string ⟨#[]⟩) (a7 := .int .i64 0) (a8 := .int .i64 0) (a9 := .int .i64 0) (a10 := .int .i64 0) hC hp)
      have HP := Lib.hid hp
      clear hrow hC hp
      show wpList Tryz.prog _ _ (_ :: []) _ _
      go_upto_region 7 with fail
      unfold wr11 at HPR HPB
      generalize World.setCell _ ⟨p, 10, none⟩ _ = V at *
      clear q0 q1 q2 q3 q4 q5 q6 q7 q8 q9 q10 f0 f1 f2 f3 f4 f5 f6 f7 f8 f9 f10
      have HPL := Lib.hid (Array.getElem?_eq_some_iff.1 HPR.out).1
      obtain ⟨y0, y1, y2, y3, _⟩ := row4 (HII.out _ HPB.out)
      have s4 := HS4.out _ HPB.out
      by_cases hc0 : cn = 0
      · have gc := decide_eq_true hc0
        subst hc0
        go_upto_region 10 with (go_at_call 25; (with_reducible refine (HC.out _).mono ?_); rintro e w4 ⟨rfl, hb4⟩; have HP4 := Lib.hid ((Below.heap_alloc w4 (.cells #[.int .i64 o, .string s, .string t, .int .i64 a, .int .i64 b, .int .i64 c, .int .i64 m] 32) p (Nat.lt_of_lt_of_le HPL.out hb4.size)).trans ((hb4.block p HPL.out).trans HPR.out)); have HB4x := Lib.hid ((HPB.out.trans (hb4.mono HPB.out.size)).alloc (Nat.le_trans HPB.out.size hb4.size) (.cells #[.int .i64 o, .string s, .string t, .int .i64 a, .int .i64 b, .int .i64 c, .int .i64 m] 32)); have HC4 := Lib.hid (heap_alloc_new w4 (.cells #[.int .i64 o, .string s, .string t, .int .i64 a, .int .i64 b, .int .i64 c, .int .i64 m] 32)); have HPR5 := Lib.hid (wrC_row (b4 := .int .i64 o) (b5 := .string s) (b6 := .string t) (b7 := .int .i64 a) (b8 := .int .i64 b) (b9 := .int .i64 c) (b10 := .int .i64 m) HP4.out); have HPB5 := Lib.hid (wrC_below (b4 := .int .i64 o) (b5 := .string s) (b6 := .string t) (b7 := .int .i64 a) (b8 := .int .i64 b) (b9 := .int .i64 c) (b10 := .int .i64 m) HB4x.out HP.out); obtain ⟨q0, q1, q2, q3, q4, q5, q6, q7, q8, q9, q10, f0, f1, f2, f3, f4, f5, f6, f7, f8, f9, f10⟩ := row11f HP4.out; obtain ⟨d0, d1, d2, d3, d4, d5, d6⟩ := row7 HC4.out; clear hb4)
        all_goals
          unfold wrC at HPR5 HPB5
          generalize World.setCell _ ⟨p, 10, none⟩ _ = V5 at *
          clear q0 q1 q2 q3 q4 q5 q6 q7 q8 q9 q10 f0 f1 f2 f3 f4 f5 f6 f7 f8 f9 f10 d0 d1 d2 d3 d4 d5 d6
          obtain ⟨v0, v1, v2, v3, v4, v5, v6, v7, v8, v9, v10⟩ := row11 HPR5.out
          by_cases he : er = 0
          · have ge := decide_eq_true he
            by_cases hE : E = D
            · have gE : (E.toList == D.toList) = true := by rw [hE]; simp
              have gE2 : decide (E.toList = D.toList) = true := decide_eq_true (by rw [hE])
              have hres := And.intro he hE
              have HRES := Lib.hid hres
              subst he hE
              clear hres
              go_wp2_with (go_at_call 26; (with_reducible refine (HEN.out _).mono ?_); rintro e w6 ⟨rfl, hb6⟩; have HX6 := Lib.hid (HPB5.out.trans (hb6.mono HPB5.out.size)); have HR6 := Lib.hid (HRR.out _ HX6.out); have HB6 := Lib.hid (HB3.out.trans (HX6.out.mono HB3.out.size)); have HP6 := Lib.hid ((hb6.block p (Array.getElem?_eq_some_iff.1 HPR5.out).1).trans HPR5.out); obtain ⟨t0, t1, t2, t3, t4, t5, t6, t7, t8, t9, t10⟩ := row11 HP6.out; obtain ⟨q0, q1, q2, q3, q4, q5, q6, q7, q8, q9, q10, f0, f1, f2, f3, f4, f5, f6, f7, f8, f9, f10⟩ := row11f HR6.out; clear hb6)
              all_goals
                have R9 := wr11_row (a0 := .int .i64 N0) (a1 := .int .i64 N1) (a2 := .int .i64 N2) (a3 := .int .i64 N3) (a4 := .int .i64 o) (a5 := .string s) (a6 := .string t) (a7 := .int .i64 a) (a8 := .int .i64 b) (a9 := .int .i64 c) (a10 := .int .i64 m) HR6.out
                have B9 := wr11_below (a0 := .int .i64 N0) (a1 := .int .i64 N1) (a2 := .int .i64 N2) (a3 := .int .i64 N3) (a4 := .int .i64 o) (a5 := .string s) (a6 := .string t) (a7 := .int .i64 a) (a8 := .int .i64 b) (a9 := .int .i64 c) (a10 := .int .i64 m) HB6.out (Nat.le_refl _)
                unfold wr11 at R9 B9
                obtain ⟨m0, m1, m2, m3, m4, m5, m6, m7, m8, m9, m10⟩ := row11 R9
                refine bodyPost_ret (v := .tuple #[.agg #[.int .i64 N0, .int .i64 N1, .int .i64 N2, .int .i64 N3, .int .i64 o, .string s, .string t, .int .i64 a, .int .i64 b, .int .i64 c, .int .i64 m], .int .i64 0]) (by simp [results, Tryz.results14, go_sem, m0, m1, m2, m3, m4, m5, m6, m7, m8, m9, m10]) rfl ⟨by rw [HRV.out, if_pos HRES.out, if_pos HRES.out], B9⟩
            · have gE : (E.toList == D.toList) = false := by rw [beq_eq_false_iff_ne]; exact fun h => hE ((toList_iff E D).1 h)
              have gE2 : decide (E.toList = D.toList) = false := decide_eq_false fun h => hE ((toList_iff E D).1 h)
              have HRES := Lib.hid (fun h : er = 0 ∧ E = D => hE h.2)
              subst he
              go_wp2_with (go_at_call 26; (with_reducible refine (HEN.out _).mono ?_); rintro e w6 ⟨rfl, hb6⟩; have HX6 := Lib.hid (HPB5.out.trans (hb6.mono HPB5.out.size)); have HR6 := Lib.hid (HRR.out _ HX6.out); have HB6 := Lib.hid (HB3.out.trans (HX6.out.mono HB3.out.size)); have HP6 := Lib.hid ((hb6.block p (Array.getElem?_eq_some_iff.1 HPR5.out).1).trans HPR5.out); obtain ⟨t0, t1, t2, t3, t4, t5, t6, t7, t8, t9, t10⟩ := row11 HP6.out; obtain ⟨q0, q1, q2, q3, q4, q5, q6, q7, q8, q9, q10, f0, f1, f2, f3, f4, f5, f6, f7, f8, f9, f10⟩ := row11f HR6.out; clear hb6)
              all_goals
                have R9 := wr11_row (a0 := .int .i64 0) (a1 := .int .i64 0) (a2 := .int .i64 0) (a3 := .int .i64 0) (a4 := .int .i64 0) (a5 := .string ⟨#[]⟩) (a6 := .string ⟨#[]⟩) (a7 := .int .i64 0) (a8 := .int .i64 0) (a9 := .int .i64 0) (a10 := .int .i64 0) HR6.out
                have B9 := wr11_below (a0 := .int .i64 0) (a1 := .int .i64 0) (a2 := .int .i64 0) (a3 := .int .i64 0) (a4 := .int .i64 0) (a5 := .string ⟨#[]⟩) (a6 := .string ⟨#[]⟩) (a7 := .int .i64 0) (a8 := .int .i64 0) (a9 := .int .i64 0) (a10 := .int .i64 0) HB6.out (Nat.le_refl _)
                unfold wr11 at R9 B9
                obtain ⟨m0, m1, m2, m3, m4, m5, m6, m7, m8, m9, m10⟩ := row11 R9
                refine bodyPost_ret (v := .tuple #[.agg #[.int .i64 0, .int .i64 0, .int .i64 0, .int .i64 0, .int .i64 0, .string ⟨#[]⟩, .string ⟨#[]⟩, .int .i64 0, .int .i64 0, .int .i64 0, .int .i64 0], .int .i64 4]) (by simp [results, Tryz.results14, go_sem, m0, m1, m2, m3, m4, m5, m6, m7, m8, m9, m10]) rfl ⟨by rw [HRV.out, if_neg HRES.out, if_neg HRES.out], B9⟩
          · have ge := decide_eq_false he
            have HRES := Lib.hid (fun h : er = 0 ∧ E = D => he h.1)
            go_wp2_with (go_at_call 26; (with_reducible refine (HEN.out _).mono ?_); rintro e w6 ⟨rfl, hb6⟩; have HX6 := Lib.hid (HPB5.out.trans (hb6.mono HPB5.out.size)); have HR6 := Lib.hid (HRR.out _ HX6.out); have HB6 := Lib.hid (HB3.out.trans (HX6.out.mono HB3.out.size)); have HP6 := Lib.hid ((hb6.block p (Array.getElem?_eq_some_iff.1 HPR5.out).1).trans HPR5.out); obtain ⟨t0, t1, t2, t3, t4, t5, t6, t7, t8, t9, t10⟩ := row11 HP6.out; obtain ⟨q0, q1, q2, q3, q4, q5, q6, q7, q8, q9, q10, f0, f1, f2, f3, f4, f5, f6, f7, f8, f9, f10⟩ := row11f HR6.out; clear hb6)
            all_goals
              have R9 := wr11_row (a0 := .int .i64 0) (a1 := .int .i64 0) (a2 := .int .i64 0) (a3 := .int .i64 0) (a4 := .int .i64 0) (a5 := .string ⟨#[]⟩) (a6 := .string ⟨#[]⟩) (a7 := .int .i64 0) (a8 := .int .i64 0) (a9 := .int .i64 0) (a10 := .int .i64 0) HR6.out
              have B9 := wr11_below (a0 := .int .i64 0) (a1 := .int .i64 0) (a2 := .int .i64 0) (a3 := .int .i64 0) (a4 := .int .i64 0) (a5 := .string ⟨#[]⟩) (a6 := .string ⟨#[]⟩) (a7 := .int .i64 0) (a8 := .int .i64 0) (a9 := .int .i64 0) (a10 := .int .i64 0) HB6.out (Nat.le_refl _)
              unfold wr11 at R9 B9
              obtain ⟨m0, m1, m2, m3, m4, m5, m6, m7, m8, m9, m10⟩ := row11 R9
              refine bodyPost_ret (v := .tuple #[.agg #[.int .i64 0, .int .i64 0, .int .i64 0, .int .i64 0, .int .i64 0, .string ⟨#[]⟩, .string ⟨#[]⟩, .int .i64 0, .int .i64 0, .int .i64 0, .int .i64 0], .int .i64 4]) (by simp [results, Tryz.results14, go_sem, m0, m1, m2, m3, m4, m5, m6, m7, m8, m9, m10]) rfl ⟨by rw [HRV.out, if_neg HRES.out, if_neg HRES.out], B9⟩
      · have gc := decide_eq_false hc0
        have hz := HCN.out hc0
        simp only [Prod.mk.injEq] at hz
        obtain ⟨rfl, rfl, rfl, rfl, rfl, rfl, rfl⟩ := hz
        go_upto_region 10 with (go_at_call 25; (with_reducible refine (HC.out _).mono ?_); rintro e w4 ⟨rfl, hb4⟩; have HP4 := Lib.hid ((Below.heap_alloc w4 (.cells #[.int .i64 0, .string ⟨#[]⟩, .string ⟨#[]⟩, .int .i64 0, .int .i64 0, .int .i64 0, .int .i64 0] 32) p (Nat.lt_of_lt_of_le HPL.out hb4.size)).trans ((hb4.block p HPL.out).trans HPR.out)); have HB4x := Lib.hid ((HPB.out.trans (hb4.mono HPB.out.size)).alloc (Nat.le_trans HPB.out.size hb4.size) (.cells #[.int .i64 0, .string ⟨#[]⟩, .string ⟨#[]⟩, .int .i64 0, .int .i64 0, .int .i64 0, .int .i64 0] 32)); have HC4 := Lib.hid (heap_alloc_new w4 (.cells #[.int .i64 0, .string ⟨#[]⟩, .string ⟨#[]⟩, .int .i64 0, .int .i64 0, .int .i64 0, .int .i64 0] 32)); obtain ⟨d0, d1, d2, d3, d4, d5, d6⟩ := row7 HC4.out; clear hb4)
        all_goals
          have HPR5 := HP4
          have HPB5 := HB4x
          generalize World.alloc w4 _ = V5 at *
          clear d0 d1 d2 d3 d4 d5 d6
          obtain ⟨v0, v1, v2, v3, v4, v5, v6, v7, v8, v9, v10⟩ := row11 HPR5.out
          by_cases he : er = 0
          · have ge := decide_eq_true he
            by_cases hE : E = D
            · have gE : (E.toList == D.toList) = true := by rw [hE]; simp
              have gE2 : decide (E.toList = D.toList) = true := decide_eq_true (by rw [hE])
              have hres := And.intro he hE
              have HRES := Lib.hid hres
              subst he hE
              clear hres
              go_wp2_with (go_at_call 26; (with_reducible refine (HEN.out _).mono ?_); rintro e w6 ⟨rfl, hb6⟩; have HX6 := Lib.hid (HPB5.out.trans (hb6.mono HPB5.out.size)); have HR6 := Lib.hid (HRR.out _ HX6.out); have HB6 := Lib.hid (HB3.out.trans (HX6.out.mono HB3.out.size)); have HP6 := Lib.hid ((hb6.block p (Array.getElem?_eq_some_iff.1 HPR5.out).1).trans HPR5.out); obtain ⟨t0, t1, t2, t3, t4, t5, t6, t7, t8, t9, t10⟩ := row11 HP6.out; obtain ⟨q0, q1, q2, q3, q4, q5, q6, q7, q8, q9, q10, f0, f1, f2, f3, f4, f5, f6, f7, f8, f9, f10⟩ := row11f HR6.out; clear hb6)
              all_goals
                have R9 := wr11_row (a0 := .int .i64 N0) (a1 := .int .i64 N1) (a2 := .int .i64 N2) (a3 := .int .i64 N3) (a4 := .int .i64 0) (a5 := .string ⟨#[]⟩) (a6 := .string ⟨#[]⟩) (a7 := .int .i64 0) (a8 := .int .i64 0) (a9 := .int .i64 0) (a10 := .int .i64 0) HR6.out
                have B9 := wr11_below (a0 := .int .i64 N0) (a1 := .int .i64 N1) (a2 := .int .i64 N2) (a3 := .int .i64 N3) (a4 := .int .i64 0) (a5 := .string ⟨#[]⟩) (a6 := .string ⟨#[]⟩) (a7 := .int .i64 0) (a8 := .int .i64 0) (a9 := .int .i64 0) (a10 := .int .i64 0) HB6.out (Nat.le_refl _)
                unfold wr11 at R9 B9
                obtain ⟨m0, m1, m2, m3, m4, m5, m6, m7, m8, m9, m10⟩ := row11 R9
                refine bodyPost_ret (v := .tuple #[.agg #[.int .i64 N0, .int .i64 N1, .int .i64 N2, .int .i64 N3, .int .i64 0, .string ⟨#[]⟩, .string ⟨#[]⟩, .int .i64 0, .int .i64 0, .int .i64 0, .int .i64 0], .int .i64 0]) (by simp [results, Tryz.results14, go_sem, m0, m1, m2, m3, m4, m5, m6, m7, m8, m9, m10]) rfl ⟨by rw [HRV.out, if_pos HRES.out, if_pos HRES.out], B9⟩
            · have gE : (E.toList == D.toList) = false := by rw [beq_eq_false_iff_ne]; exact fun h => hE ((toList_iff E D).1 h)
              have gE2 : decide (E.toList = D.toList) = false := decide_eq_false fun h => hE ((toList_iff E D).1 h)
              have HRES := Lib.hid (fun h : er = 0 ∧ E = D => hE h.2)
              subst he
              go_wp2_with (go_at_call 26; (with_reducible refine (HEN.out _).mono ?_); rintro e w6 ⟨rfl, hb6⟩; have HX6 := Lib.hid (HPB5.out.trans (hb6.mono HPB5.out.size)); have HR6 := Lib.hid (HRR.out _ HX6.out); have HB6 := Lib.hid (HB3.out.trans (HX6.out.mono HB3.out.size)); have HP6 := Lib.hid ((hb6.block p (Array.getElem?_eq_some_iff.1 HPR5.out).1).trans HPR5.out); obtain ⟨t0, t1, t2, t3, t4, t5, t6, t7, t8, t9, t10⟩ := row11 HP6.out; obtain ⟨q0, q1, q2, q3, q4, q5, q6, q7, q8, q9, q10, f0, f1, f2, f3, f4, f5, f6, f7, f8, f9, f10⟩ := row11f HR6.out; clear hb6)
              all_goals
                have R9 := wr11_row (a0 := .int .i64 0) (a1 := .int .i64 0) (a2 := .int .i64 0) (a3 := .int .i64 0) (a4 := .int .i64 0) (a5 := .string ⟨#[]⟩) (a6 := .string ⟨#[]⟩) (a7 := .int .i64 0) (a8 := .int .i64 0) (a9 := .int .i64 0) (a10 := .int .i64 0) HR6.out
                have B9 := wr11_below (a0 := .int .i64 0) (a1 := .int .i64 0) (a2 := .int .i64 0) (a3 := .int .i64 0) (a4 := .int .i64 0) (a5 := .string ⟨#[]⟩) (a6 := .string ⟨#[]⟩) (a7 := .int .i64 0) (a8 := .int .i64 0) (a9 := .int .i64 0) (a10 := .int .i64 0) HB6.out (Nat.le_refl _)
                unfold wr11 at R9 B9
                obtain ⟨m0, m1, m2, m3, m4, m5, m6, m7, m8, m9, m10⟩ := row11 R9
                refine bodyPost_ret (v := .tuple #[.agg #[.int .i64 0, .int .i64 0, .int .i64 0, .int .i64 0, .int .i64 0, .string ⟨#[]⟩, .string ⟨#[]⟩, .int .i64 0, .int .i64 0, .int .i64 0, .int .i64 0], .int .i64 4]) (by simp [results, Tryz.results14, go_sem, m0, m1, m2, m3, m4, m5, m6, m7, m8, m9, m10]) rfl ⟨by rw [HRV.out, if_neg HRES.out, if_neg HRES.out], B9⟩
          · have ge := decide_eq_false he
            have HRES := Lib.hid (fun h : er = 0 ∧ E = D => he h.1)
            go_wp2_with (go_at_call 26; (with_reducible refine (HEN.out _).mono ?_); rintro e w6 ⟨rfl, hb6⟩; have HX6 := Lib.hid (HPB5.out.trans (hb6.mono HPB5.out.size)); have HR6 := Lib.hid (HRR.out _ HX6.out); have HB6 := Lib.hid (HB3.out.trans (HX6.out.mono HB3.out.size)); have HP6 := Lib.hid ((hb6.block p (Array.getElem?_eq_some_iff.1 HPR5.out).1).trans HPR5.out); obtain ⟨t0, t1, t2, t3, t4, t5, t6, t7, t8, t9, t10⟩ := row11 HP6.out; obtain ⟨q0, q1, q2, q3, q4, q5, q6, q7, q8, q9, q10, f0, f1, f2, f3, f4, f5, f6, f7, f8, f9, f10⟩ := row11f HR6.out; clear hb6)
            all_goals
              have R9 := wr11_row (a0 := .int .i64 0) (a1 := .int .i64 0) (a2 := .int .i64 0) (a3 := .int .i64 0) (a4 := .int .i64 0) (a5 := .string ⟨#[]⟩) (a6 := .string ⟨#[]⟩) (a7 := .int .i64 0) (a8 := .int .i64 0) (a9 := .int .i64 0) (a10 := .int .i64 0) HR6.out
              have B9 := wr11_below (a0 := .int .i64 0) (a1 := .int .i64 0) (a2 := .int .i64 0) (a3 := .int .i64 0) (a4 := .int .i64 0) (a5 := .string ⟨#[]⟩) (a6 := .string ⟨#[]⟩) (a7 := .int .i64 0) (a8 := .int .i64 0) (a9 := .int .i64 0) (a10 := .int .i64 0) HB6.out (Nat.le_refl _)
              unfold wr11 at R9 B9
              obtain ⟨m0, m1, m2, m3, m4, m5, m6, m7, m8, m9, m10⟩ := row11 R9
              refine bodyPost_ret (v := .tuple #[.agg #[.int .i64 0, .int .i64 0, .int .i64 0, .int .i64 0, .int .i64 0, .string ⟨#[]⟩, .string ⟨#[]⟩, .int .i64 0, .int .i64 0, .int .i64 0, .int .i64 0], .int .i64 4]) (by simp [results, Tryz.results14, go_sem, m0, m1, m2, m3, m4, m5, m6, m7, m8, m9, m10]) rfl ⟨by rw [HRV.out, if_neg HRES.out, if_neg HRES.out], B9⟩
end Go.Proofs.YtebacdegjmcnlaaGreat
