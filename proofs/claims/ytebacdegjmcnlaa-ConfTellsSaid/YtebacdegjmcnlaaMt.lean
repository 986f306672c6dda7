import Derived.Test.YtebacdegjmcnlaaMr
import Derived.Recover
namespace Go.Proofs.Ytebacdegjmcnlaa
open Go.RowKit Pl
set_option linter.unusedVariables false
set_option maxRecDepth 20000
def zc : Array Value := #[.int .i64 0, .string ⟨#[]⟩, .string ⟨#[]⟩, .int .i64 0, .int .i64 0, .int .i64 0, .int .i64 0]
def CaughtC (B p q : Nat) (older : List PanicEntry) (w : World) (e : Ending) (u' : FrameMode) (w' : World) : Prop :=
  e = .returned (.tuple #[]) ∧ u' = .panicking ({ v := .iface 35 (.int .i64 4), recovered := true } :: older) ∧ w'.heap[p]? = some (.cells zc 41 (0, 0)) ∧ w'.heap[q]? = some (.cells #[.int .i64 4] 35 (0, 0)) ∧ Below B w w'
theorem catchC_panicking (B p q : Nat) (a0 a1 a2 a3 a4 a5 a6 b0 : Value) (older : List PanicEntry) (w : World) (hp : w.heap[p]? = some (.cells #[a0, a1, a2, a3, a4, a5, a6] 41 (0, 0))) (hq : w.heap[q]? = some (.cells #[b0] 35 (0, 0))) (hBp : B ≤ p) (hBq : B ≤ q) (hne : p ≠ q) (hB : B ≤ w.heap.size) :
    CallsD Try.prog 70 #[.pointer (some ⟨p, 0, none⟩), .pointer (some ⟨q, 0, none⟩)] (.panicking ({ v := .iface 35 (.int .i64 4), recovered := false } :: older)) w (CaughtC B p q older w) := by
  have hz0 : (Instr.build 41 #[]).run Try.prog w = .ok (.agg #[.int .i64 0, .string ⟨#[]⟩, .string ⟨#[]⟩, .int .i64 0, .int .i64 0, .int .i64 0, .int .i64 0]) w := run_build w 41 _ _ (by kernel_rfl)
  refine callsD_of_wpS Try.func70 rfl fun c₀ cs hu => ?_
  apply wpS_seq
  apply wpS_region
  simp [wpOpsS, go_sem, recoverD, hu, Try.ntmps70, Exit.thenS]
  refine wpS_of_wp ?_
  rw [show (#[Value.pointer (some ⟨p, 0, none⟩), Value.pointer (some ⟨q, 0, none⟩)] ++ ((Array.replicate 3 undef).setIfInBounds 0 (Value.iface 35 (Value.int IntKind.i64 4))).setIfInBounds 1 (Value.bool true)) =
    #[Value.pointer (some ⟨p, 0, none⟩), Value.pointer (some ⟨q, 0, none⟩), Value.iface 35 (Value.int IntKind.i64 4), Value.bool true, undef] from rfl]
  obtain ⟨x0, x1, x2, x3, x4, x5, x6⟩ := row7 hp
  obtain ⟨f0, f1, f2, f3, f4, f5, f6⟩ := row7f hp
  have s0 : w.cell? ⟨q, 0, none⟩ = some b0 := cell_of_row w q 0 _ _ _ hq
  have y0 : w.frozen? ⟨q, 0, none⟩ = false := by simp [World.frozen?, hq]
  have HP := Lib.hid hp
  have HQ := Lib.hid hq
  clear hp hq hu
  go_wp2_with fail
  have R1 := w7_row w p (.int .i64 0) (.string ⟨#[]⟩) (.string ⟨#[]⟩) (.int .i64 0) (.int .i64 0) (.int .i64 0) (.int .i64 0) _ _ _ _ _ _ _ 41 HP.out
  have F1 := w7_far w p (.int .i64 0) (.string ⟨#[]⟩) (.string ⟨#[]⟩) (.int .i64 0) (.int .i64 0) (.int .i64 0) (.int .i64 0) q (Ne.symm hne)
  have B1 := w7_below (Below.refl B w) p (.int .i64 0) (.string ⟨#[]⟩) (.string ⟨#[]⟩) (.int .i64 0) (.int .i64 0) (.int .i64 0) (.int .i64 0) hBp
  refine ⟨rfl, _, rfl, .tuple #[], by simp [results, Try.results70], rfl, rfl, ?_, ?_, ?_⟩
  · exact (Below.heap_setCell _ _ _ _ hne).trans R1
  · exact heap_set _ q 0 (.int .i64 4) _ _ (F1.trans HQ.out)
  · exact B1.setCell hBq _
theorem catchC_idle (p q : Value) (w : World) : CallsD Try.prog 70 #[p, q] .returning w fun e u' w' => e = .returned (.tuple #[]) ∧ u' = .returning ∧ w = w' := by
  refine callsD_of_wpS Try.func70 rfl fun c₀ cs hu => ?_
  apply wpS_seq
  apply wpS_region
  simp [wpOpsS, go_sem, recoverD, hu, Try.ntmps70, Exit.thenS]
  refine wpS_of_wp ?_
  rw [show (#[p, q] ++ ((Array.replicate 3 undef).setIfInBounds 0 Value.nilIface).setIfInBounds 1 (Value.bool false)) = #[p, q, Value.nilIface, Value.bool false, undef] from rfl]
  go_wp2_with fail
  cases c₀
  simp_all [bodyPostS, results, Try.results70]
def zr : Array Value := #[.int .i64 0, .string ⟨#[]⟩, .int .i64 0, .int .i64 0, .int .i64 0, .int .i64 0]
end Go.Proofs.Ytebacdegjmcnlaa
