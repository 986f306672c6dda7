import Derived.Test.YtphclpjekpdifaaMo
import Derived.Test.YtphclpjekpdifaaMp
import Derived.Deep.RegionHeld2
namespace Go.Proofs.Ytphclpjekpdifaa.Wi
open Go.RowKit Pl
set_option maxRecDepth 20000
set_option linter.unusedVariables false
set_option maxRecDepth 20000
theorem number_any (k n : Int) (s : ByteArray) (A : Option Addr) (m c : Nat) (w : World) : Calls Try.prog 76 #[.agg #[.int .i64 k, .int .i64 n, .string s, .slice A m c]] w (OrP (k == 1) (.int .i64 n) w) := by
  by_cases h : k = 1
  · subst h; exact (number_yes n s A m c w).mono fun e w' h => by rw [h.1]; exact orYes rfl h.2
  · exact (number_no k n h s A m c w).mono fun e w' q => by rw [q.1]; exact orNo (by simpa using h) q.2
theorem int_any (k n : Int) (s : ByteArray) (A : Option Addr) (m c : Nat) (w : World) : Calls Try.prog 73 #[.agg #[.int .i64 k, .int .i64 n, .string s, .slice A m c]] w (OrP (k == 1) (.int .i64 n) w) := by
  by_cases h : k = 1
  · subst h; exact (int_yes n s A m c w).mono fun e w' h => by rw [h.1]; exact orYes rfl h.2
  · exact (int_no k n h s A m c w).mono fun e w' q => by rw [q.1]; exact orNo (by simpa using h) q.2
theorem textOf_any (k n : Int) (s : ByteArray) (A : Option Addr) (m c : Nat) (w : World) : Calls Try.prog 74 #[.agg #[.int .i64 k, .int .i64 n, .string s, .slice A m c]] w (OrP (k == 2) (.string s) w) := by
  by_cases h : k = 2
  · subst h; exact (textOf_yes n s A m c w).mono fun e w' h => by rw [h.1]; exact orYes rfl h.2
  · exact (textOf_no k n h s A m c w).mono fun e w' q => by rw [q.1]; exact orNo (by simpa using h) q.2
theorem alloc_row {W V : World} {o : Obj} (h : Below (W.alloc o).heap.size (W.alloc o) V) : V.heap[W.heap.size]? = some o := (h.block _ (by simp)).trans (heap_alloc_new _ _)
theorem alloc_row_drew {W V : World} {o : Obj} (h : Below (W.alloc o).drew.heap.size (W.alloc o).drew V) : V.heap[W.heap.size]? = some o := (h.block _ (by simp)).trans (heap_alloc_new W o)
end Go.Proofs.Ytphclpjekpdifaa.Wi
