import Derived.Test.YtiedeneglhboiaaMv
import Derived.OpenShut
import Derived.ShutString
import Derived.SizedLaws
import Derived.Deep.Slices
import Derived.Deep.Fields
import Derived.ChangeSame
import Derived.ChangeOld
import Derived.Laws.IdiomArrays
namespace Go.Proofs.Ytiedeneglhboiaa
open Go.ChangeShapes Go.WideShapes Go.ChangeAt Go.RowKit Go.Deep
set_option linter.unusedVariables false
section
variable {H : Type} {enc : TypeId × Value → H} {W : World} {base : Nat}
theorem cells2 : Try.prog.cellsOf 2 = 1 := by kernel_rfl
theorem cells3 : Try.prog.cellsOf 3 = 1 := by kernel_rfl
theorem cells9 : Try.prog.cellsOf 9 = 1 := by kernel_rfl
theorem cells27 : Try.prog.cellsOf 27 = 1 := by kernel_rfl
theorem cells23 : Try.prog.cellsOf 23 = 3 := by kernel_rfl
theorem cells25 : Try.prog.cellsOf 25 = 7 := by kernel_rfl
theorem cells34 : Try.prog.cellsOf 34 = 6 := by kernel_rfl
theorem wf_of {z : Int} (h : (Lit.int .i64 z).wf = true) : InR z := by
  simp only [Lit.wf, Bool.and_eq_true, decide_eq_true_eq] at h
  have e1 : IntKind.i64.min = -9223372036854775808 := by decide
  have e2 : IntKind.i64.max = 9223372036854775807 := by decide
  rw [e1, e2] at h
  exact h
theorem vec_cells {held : Bool} {sp : Nat → Bool} {b0 fuel : Nat} {cs : List Value} {y : DataW H × List MemPlace} (hl : cs.length = 3) (h : DataW.trod enc Try.prog W b0 sp held fuel 23 cs = some y) :
    ∃ x1 x2 x3 : Int, cs = [.int .i64 x1, .int .i64 x2, .int .i64 x3] ∧ InR x1 ∧ InR x2 ∧ InR x3 := by
  match cs, hl with
  | [c0, c1, c2], _ =>
    obtain ⟨y0, y1, y2, m, rfl, hy0, hy1, hy2⟩ := trod_array3 Try.underlying23 cells2 h
    obtain ⟨k0, e0, rfl, hw0⟩ := DataW.trod_int Try.underlying2 hy0
    obtain ⟨k1, e1, rfl, hw1⟩ := DataW.trod_int Try.underlying2 hy1
    obtain ⟨k2, e2, rfl, hw2⟩ := DataW.trod_int Try.underlying2 hy2
    simp at e0 e1 e2
    subst e0 e1 e2
    exact ⟨k0, k1, k2, rfl, wf_of hw0, wf_of hw1, wf_of hw2⟩
set_option maxRecDepth 100000 in
set_option maxHeartbeats 1000000 in
theorem cmd_arg {v : Value} {d : DataW H} {p : List MemPlace} (hv : Value.okWide Try.prog W .any base 25 v) (h0 : DataW.Trod enc Try.prog W 0 (fun _ => true) true 25 v d p) (hw : ∀ z ∈ d.weights Try.prog 25, z ≤ 140737488351232) :
    ∃ (o : Int) (s t : ByteArray) (a b c n : Int), v = .agg #[.int .i64 o, .string s, .string t, .int .i64 a, .int .i64 b, .int .i64 c, .int .i64 n] ∧ InR o ∧ s.size ≤ 140737488351232 ∧ t.size ≤ 140737488351232 ∧ InR a ∧ InR b ∧ InR c ∧ InR n := by
  obtain ⟨cs, rfl, hsz⟩ := okWide_struct Try.underlying25 hv
  obtain ⟨fuel, h⟩ := h0
  obtain ⟨l⟩ := cs
  obtain ⟨xs, n, hq, hy, hlen, hxl, hf⟩ := DataW.trod_struct Try.underlying25 h
  simp only [Value.cells, Prod.mk.injEq] at hq hy hlen hf
  rw [cells25] at hlen
  match l, hlen with
  | [u0, u1, u2, u3, u4, u5, u6], _ =>
    match xs, hxl with
    | [y0, y1, y2, y3, y4], _ =>
      have g0 : DataW.trod enc Try.prog W 0 (fun _ => true) true n 3 [u0] = some y0 := by have q : DataW.trod enc Try.prog W 0 (fun _ => true) true n 3 (([u0, u1, u2, u3, u4, u5, u6].drop 0).take (Try.prog.cellsOf 3)) = some y0 := hf 0 _ rfl; rw [cells3] at q; exact q
      obtain ⟨k0, e0, _, w0⟩ := DataW.trod_int Try.underlying3 g0
      have g1 : DataW.trod enc Try.prog W 0 (fun _ => true) true n 9 [u1] = some y1 := by have q : DataW.trod enc Try.prog W 0 (fun _ => true) true n 9 (([u0, u1, u2, u3, u4, u5, u6].drop 1).take (Try.prog.cellsOf 9)) = some y1 := hf 1 _ rfl; rw [cells9] at q; exact q
      obtain ⟨k1, e1, d1, _⟩ := DataW.trod_string Try.underlying9 g1
      have g2 : DataW.trod enc Try.prog W 0 (fun _ => true) true n 9 [u2] = some y2 := by have q : DataW.trod enc Try.prog W 0 (fun _ => true) true n 9 (([u0, u1, u2, u3, u4, u5, u6].drop 2).take (Try.prog.cellsOf 9)) = some y2 := hf 2 _ rfl; rw [cells9] at q; exact q
      obtain ⟨k2, e2, d2, _⟩ := DataW.trod_string Try.underlying9 g2
      have g3 : DataW.trod enc Try.prog W 0 (fun _ => true) true n 23 [u3, u4, u5] = some y3 := by have q : DataW.trod enc Try.prog W 0 (fun _ => true) true n 23 (([u0, u1, u2, u3, u4, u5, u6].drop 3).take (Try.prog.cellsOf 23)) = some y3 := hf 3 _ rfl; rw [cells23] at q; exact q
      obtain ⟨x1, x2, x3, e3, v1, v2, v3⟩ := vec_cells rfl g3
      have g4 : DataW.trod enc Try.prog W 0 (fun _ => true) true n 2 [u6] = some y4 := by have q : DataW.trod enc Try.prog W 0 (fun _ => true) true n 2 (([u0, u1, u2, u3, u4, u5, u6].drop 6).take (Try.prog.cellsOf 2)) = some y4 := hf 4 _ rfl; rw [cells2] at q; exact q
      obtain ⟨k4, e4, _, w4⟩ := DataW.trod_int Try.underlying2 g4
      simp only [List.cons.injEq, and_true] at e0 e1 e2 e3 e4
      obtain ⟨e3a, e3b, e3c⟩ := e3
      subst e0 e1 e2 e3a e3b e3c e4
      have hwt : ∀ z ∈ DataW.weightsEach Try.prog [3, 9, 9, 23, 2] [y0.1, y1.1, y2.1, y3.1, y4.1], z ≤ 140737488351232 := by
        intro z hz
        refine hw z ?_
        rw [hy.1]
        show z ∈ DataW.weights Try.prog 25 (.agg _)
        rw [DataW.weights, Try.underlying25]
        exact hz
      have b1 := hwt k1.data.toList.length (DataW.weights_mem_each (j := 1) (t := 9) (d := y1.1) rfl rfl _ (by rw [d1]; simp [DataW.weights]))
      rw [Pl.size_data] at b1
      have b2 := hwt k2.data.toList.length (DataW.weights_mem_each (j := 2) (t := 9) (d := y2.1) rfl rfl _ (by rw [d2]; simp [DataW.weights]))
      rw [Pl.size_data] at b2
      exact ⟨k0, k1, k2, x1, x2, x3, k4, rfl, wf_of w0, b1, b2, v1, v2, v3, wf_of w4⟩
set_option maxRecDepth 100000 in
set_option maxHeartbeats 1000000 in
theorem rep_arg {v : Value} {d : DataW H} {p : List MemPlace} (hv : Value.okWide Try.prog W .any base 34 v) (h0 : DataW.Trod enc Try.prog W 0 (fun _ => true) true 34 v d p) (hw : ∀ z ∈ d.weights Try.prog 34, z ≤ 140737488351232) :
    ∃ (o : Int) (s : ByteArray) (a b c n : Int), v = .agg #[.int .i64 o, .string s, .int .i64 a, .int .i64 b, .int .i64 c, .int .i64 n] ∧ InR o ∧ s.size ≤ 140737488351232 ∧ InR a ∧ InR b ∧ InR c ∧ InR n := by
  obtain ⟨cs, rfl, hsz⟩ := okWide_struct Try.underlying34 hv
  obtain ⟨fuel, h⟩ := h0
  obtain ⟨l⟩ := cs
  obtain ⟨xs, n, hq, hy, hlen, hxl, hf⟩ := DataW.trod_struct Try.underlying34 h
  simp only [Value.cells, Prod.mk.injEq] at hq hy hlen hf
  rw [cells34] at hlen
  match l, hlen with
  | [u0, u1, u2, u3, u4, u5], _ =>
    match xs, hxl with
    | [y0, y1, y2, y3], _ =>
      have g0 : DataW.trod enc Try.prog W 0 (fun _ => true) true n 27 [u0] = some y0 := by have q : DataW.trod enc Try.prog W 0 (fun _ => true) true n 27 (([u0, u1, u2, u3, u4, u5].drop 0).take (Try.prog.cellsOf 27)) = some y0 := hf 0 _ rfl; rw [cells27] at q; exact q
      obtain ⟨k0, e0, _, w0⟩ := DataW.trod_int Try.underlying27 g0
      have g1 : DataW.trod enc Try.prog W 0 (fun _ => true) true n 9 [u1] = some y1 := by have q : DataW.trod enc Try.prog W 0 (fun _ => true) true n 9 (([u0, u1, u2, u3, u4, u5].drop 1).take (Try.prog.cellsOf 9)) = some y1 := hf 1 _ rfl; rw [cells9] at q; exact q
      obtain ⟨k1, e1, d1, _⟩ := DataW.trod_string Try.underlying9 g1
      have g2 : DataW.trod enc Try.prog W 0 (fun _ => true) true n 23 [u2, u3, u4] = some y2 := by have q : DataW.trod enc Try.prog W 0 (fun _ => true) true n 23 (([u0, u1, u2, u3, u4, u5].drop 2).take (Try.prog.cellsOf 23)) = some y2 := hf 2 _ rfl; rw [cells23] at q; exact q
      obtain ⟨x1, x2, x3, e2, v1, v2, v3⟩ := vec_cells rfl g2
      have g3 : DataW.trod enc Try.prog W 0 (fun _ => true) true n 2 [u5] = some y3 := by have q : DataW.trod enc Try.prog W 0 (fun _ => true) true n 2 (([u0, u1, u2, u3, u4, u5].drop 5).take (Try.prog.cellsOf 2)) = some y3 := hf 3 _ rfl; rw [cells2] at q; exact q
      obtain ⟨k3, e3, _, w3⟩ := DataW.trod_int Try.underlying2 g3
      simp only [List.cons.injEq, and_true] at e0 e1 e2 e3
      obtain ⟨e2a, e2b, e2c⟩ := e2
      subst e0 e1 e2a e2b e2c e3
      have hwt : ∀ z ∈ DataW.weightsEach Try.prog [27, 9, 23, 2] [y0.1, y1.1, y2.1, y3.1], z ≤ 140737488351232 := by
        intro z hz
        refine hw z ?_
        rw [hy.1]
        show z ∈ DataW.weights Try.prog 34 (.agg _)
        rw [DataW.weights, Try.underlying34]
        exact hz
      have b1 := hwt k1.data.toList.length (DataW.weights_mem_each (j := 1) (t := 9) (d := y1.1) rfl rfl _ (by rw [d1]; simp [DataW.weights]))
      rw [Pl.size_data] at b1
      exact ⟨k0, k1, x1, x2, x3, k3, rfl, wf_of w0, b1, v1, v2, v3, wf_of w3⟩
end
end Go.Proofs.Ytiedeneglhboiaa
