import Derived.Test.YtebacdegjmcnlaaMu
namespace Go.Proofs.Ytebacdegjmcnlaa
open Go.RowKit Pl
set_option linter.unusedVariables false
set_option maxRecDepth 20000
/-- what Decode, Unpack answer -/
def DecP (r : Option Value) (z : Array Value) (w : World) (e : Ending) (w' : World) : Prop := (e = match r with | some v => .returned (.tuple #[v, .int .i64 0]) | none => .returned (.tuple #[.agg z, .int .i64 4])) ∧ Below w.heap.size w w'
theorem decodeC_any (l : List UInt8) (w : World) (hs : l.length ≤ 281474976710656) : Calls Try.prog 55 #[.string (Nm.str l)] w (DecP ((resC l).map vC7) zc w) := by
  have hmf : ∀ (fn : Fn) (first cap : Array Value) (w : World), (Instr.makeFunc fn first cap).run Try.prog w = .ok (.func fn first cap) w := fun _ _ _ _ => rfl
  have HS := Lib.hid hs
  clear hs
  have hpW : ((w.alloc (.cells zc 41)).alloc (.cells #[.int .i64 0] 35)).heap[w.heap.size]? = some (.cells zc 41 (0, 0)) := (Below.heap_alloc _ _ _ (by simp)).trans (heap_alloc_new _ _)
  have hqW : ((w.alloc (.cells zc 41)).alloc (.cells #[.int .i64 0] 35)).heap[w.heap.size + 1]? = some (.cells #[.int .i64 0] 35 (0, 0)) := by
    rw [show w.heap.size + 1 = (w.alloc (.cells zc 41)).heap.size from by simp]; exact heap_alloc_new _ _
  have hbW : Below w.heap.size w ((w.alloc (.cells zc 41)).alloc (.cells #[.int .i64 0] 35)) := ((Below.refl _ _).alloc (Nat.le_refl _) _).alloc (by simp) _
  have hsW : ((w.alloc (.cells zc 41)).alloc (.cells #[.int .i64 0] 35)).heap.size = w.heap.size + 2 := by simp
  obtain ⟨W, hW⟩ : ∃ W, W = ((w.alloc (.cells zc 41)).alloc (.cells #[.int .i64 0] 35)) := ⟨_, rfl⟩
  rw [← hW] at hpW hqW hbW hsW
  have HW := Lib.hid hW
  have HP := Lib.hid hpW
  have HQ := Lib.hid hqW
  have HB := Lib.hid hbW
  have HZ := Lib.hid hsW
  clear hW hpW hqW hbW hsW
  cases hr : resC l with
  | none =>
    have HR := Lib.hid hr
    clear hr
    go_enter_defers Try.func55, Try.ntmps55
    go_wp2_with fail
    change Calls Try.prog 71 _ ((w.alloc (.cells zc 41)).alloc (.cells #[.int .i64 0] 35)) _
    rw [← HW.out]
    refine (commandOf_any l W HS.out).mono ?_
    rintro e w1 ⟨he, hb1⟩
    rw [HR.out] at he
    simp only [Option.map_none] at he
    subst he
    have hz := HZ.out
    have hp1 := (hb1.block w.heap.size (by omega)).trans HP.out
    have hq1 := (hb1.block (w.heap.size + 1) (by omega)).trans HQ.out
    have hbb : Below w.heap.size w w1 := HB.out.trans (hb1.mono HB.out.size)
    refine leaves_cons (f := 70) (args := #[.pointer (some ⟨w.heap.size, 0, none⟩), .pointer (some ⟨w.heap.size + 1, 0, none⟩)]) (by simp) (by simp [go_sem]) ?_
    refine (catchC_panicking w.heap.size w.heap.size (w.heap.size + 1) _ _ _ _ _ _ _ _ [] w1 hp1 hq1 (Nat.le_refl _) (by omega) (by omega) hbb.size).mono ?_
    rintro e u' w3 ⟨rfl, rfl, hp3, hq3, hb3⟩
    unfold zc at hp3
    obtain ⟨m0, m1, m2, m3, m4, m5, m6⟩ := row7 hp3
    have s0 : w3.cell? ⟨w.heap.size + 1, 0, none⟩ = some (.int .i64 4) := cell_of_row w3 _ 0 _ _ _ hq3
    refine ⟨.tuple #[.agg zc, .int .i64 4], ?_, by rfl, hbb.trans hb3⟩
    simp [results, Try.results55, go_sem, m0, m1, m2, m3, m4, m5, m6, s0, zc]
  | some x =>
    obtain ⟨x0, x1, x2, x3, x4, x5, x6⟩ := x
    have HR := Lib.hid hr
    clear hr
    go_enter_defers Try.func55, Try.ntmps55
    go_wp2_with fail
    change Calls Try.prog 71 _ ((w.alloc (.cells zc 41)).alloc (.cells #[.int .i64 0] 35)) _
    rw [← HW.out]
    refine (commandOf_any l W HS.out).mono ?_
    rintro e w1 ⟨he, hb1⟩
    rw [HR.out] at he
    simp only [Option.map_some, vC7] at he
    subst he
    have hz := HZ.out
    have hp1 := (hb1.block w.heap.size (by omega)).trans HP.out
    have hq1 := (hb1.block (w.heap.size + 1) (by omega)).trans HQ.out
    have hbb : Below w.heap.size w w1 := HB.out.trans (hb1.mono HB.out.size)
    unfold zc at hp1
    obtain ⟨r0, r1, r2, r3, r4, r5, r6⟩ := row7 hp1
    obtain ⟨f0, f1, f2, f3, f4, f5, f6⟩ := row7f hp1
    have s0 : w1.cell? ⟨w.heap.size + 1, 0, none⟩ = some (.int .i64 0) := cell_of_row w1 _ 0 _ _ _ hq1
    have y0 : w1.frozen? ⟨w.heap.size + 1, 0, none⟩ = false := by simp [World.frozen?, hq1]
    have HP1 := Lib.hid hp1
    have HQ1 := Lib.hid hq1
    have HB1 := Lib.hid hbb
    clear hp1 hq1 hbb hb1 hz
    go_wp2_with fail
    have R1 := nest_row w1 w.heap.size (.int .i64 x0) (.string x1) (.string x2) (.int .i64 x3) (.int .i64 x4) (.int .i64 x5) (.int .i64 x6) _ _ _ _ _ _ _ 41 HP1.out
    have F1 := w7_far w1 w.heap.size (.int .i64 x0) (.string x1) (.string x2) (.int .i64 x3) (.int .i64 x4) (.int .i64 x5) (.int .i64 x6) (w.heap.size + 1) (by omega)
    have B1 := nest_below HB1.out w.heap.size (.int .i64 x0) (.string x1) (.string x2) (.int .i64 x3) (.int .i64 x4) (.int .i64 x5) (.int .i64 x6) (Nat.le_refl _)
    change _ = _ at F1
    have Q1 := heap_set _ (w.heap.size + 1) 0 (.int .i64 0) _ _ (F1.trans HQ1.out)
    have R2 := (Below.heap_setCell (w7 w1 w.heap.size (.int .i64 x0) (.string x1) (.string x2) (.int .i64 x3) (.int .i64 x4) (.int .i64 x5) (.int .i64 x6)) ⟨w.heap.size + 1, 0, none⟩ (.int .i64 0) w.heap.size (by simp)).trans R1
    have B2 := B1.setCell (p := ⟨w.heap.size + 1, 0, none⟩) (by simp) (.int .i64 0)
    change bodyPostD _ _ _ _ _ ((w7 w1 w.heap.size (.int .i64 x0) (.string x1) (.string x2) (.int .i64 x3) (.int .i64 x4) (.int .i64 x5) (.int .i64 x6)).setCell ⟨w.heap.size + 1, 0, none⟩ (.int .i64 0))
    change Below w.heap.size w ((w7 w1 w.heap.size (.int .i64 x0) (.string x1) (.string x2) (.int .i64 x3) (.int .i64 x4) (.int .i64 x5) (.int .i64 x6)).setCell ⟨w.heap.size + 1, 0, none⟩ (.int .i64 0)) at B2
    generalize (w7 w1 w.heap.size (.int .i64 x0) (.string x1) (.string x2) (.int .i64 x3) (.int .i64 x4) (.int .i64 x5) (.int .i64 x6)).setCell ⟨w.heap.size + 1, 0, none⟩ (.int .i64 0) = V at *
    refine leaves_cons (f := 70) (args := #[.pointer (some ⟨w.heap.size, 0, none⟩), .pointer (some ⟨w.heap.size + 1, 0, none⟩)]) (by simp) (by simp [go_sem]) ?_
    refine (catchC_idle _ _ V).mono ?_
    rintro e u' w6 ⟨rfl, rfl, rfl⟩
    obtain ⟨m0, m1, m2, m3, m4, m5, m6⟩ := row7 R2
    have s1 := cell_of_row V _ 0 _ _ _ Q1
    refine ⟨.tuple #[.agg #[.int .i64 x0, .string x1, .string x2, .int .i64 x3, .int .i64 x4, .int .i64 x5, .int .i64 x6], .int .i64 0], ?_, by rfl, B2⟩
    simp [results, Try.results55, go_sem, m0, m1, m2, m3, m4, m5, m6, s1]
end Go.Proofs.Ytebacdegjmcnlaa
