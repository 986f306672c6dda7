import Derived.Test.YtebacdegjmcnlaaGreatIr
import Derived.Test.YtebacdegjmcnlaaGreatSl
namespace Go.Proofs.YtebacdegjmcnlaaGreat
set_option maxRecDepth 20000
open Go.RowKit
set_option linter.unusedVariables false
open Pl (It)
open Go.Proofs.YtebacdegjmcnlaaGreat.Nm (str)
/-! ### an item's parts, read -/
def elsP : It → List It
  | .mk _ _ _ l => l
def numP : It → Int
  | .mk _ n _ _ => n
def txP : It → List UInt8
  | .mk _ _ s _ => s.data.toList
def zI : It := .mk 0 0 ⟨#[]⟩ []
def part (t : It) (k : Nat) : It := (elsP t)[k]?.getD zI
theorem below_2 (w : World) (o1 o2 : Obj) : Below w.heap.size w ((w.alloc o1).alloc o2) := ((Below.refl _ w).alloc (Nat.le_refl _) o1).alloc (by simp) o2
/-- the item's value, its cells in a box -/
theorem IsIt.form {w : World} {S : Nat → Prop} {t : It} {v : Value} (h : IsIt w S t v) : ∃ k s A c, v = .agg #[.int .i64 k, .int .i64 (numP t), .string s, .slice A (elsP t).length c] ∧ s.data.toList = txP t ∧ InR (numP t) ∧ s.size ≤ maxLen ∧ (elsP t).length ≤ maxLen ∧ AreIts w S (elsP t) A 0 := by
  obtain ⟨k, n, s, l⟩ := t
  rw [IsIt] at h
  obtain ⟨A, c, h1, h2, h3, h4, h5, h6⟩ := h
  exact ⟨k, s, A, c, h1, rfl, h3, h4, h5, h6⟩
theorem isIt_zero (w : World) (S : Nat → Prop) : IsIt w S zI (.agg #[.int .i64 0, .int .i64 0, .string ⟨#[]⟩, .slice none 0 0]) := by
  unfold zI
  rw [IsIt]
  exact ⟨none, 0, rfl, ⟨by omega, by omega⟩, ⟨by omega, by omega⟩, by simp [zero_size], by simp, by rw [AreIts]; trivial⟩
set_option maxHeartbeats 1000000 in
theorem part_no (k n : Int) (s : ByteArray) (A : Option Addr) (m c j : Nat) (hj : ¬ j < m) (w : World) :
    Calls Tryz.prog 36 #[.agg #[.int .i64 k, .int .i64 n, .string s, .slice A m c], .int .i64 (j : Int)] w (RetBelow (.agg #[.int .i64 0, .int .i64 0, .string ⟨#[]⟩, .slice none 0 0]) w) := by
  have h1 : decide ((j : Int) < 0) = false := by simp
  have h2 : decide ((m : Int) ≤ (j : Int)) = true := by simp; omega
  have h3 : decide (m ≤ j) = true := by simp; omega
  have hbd : ∀ W : World, (Instr.build 50 #[]).run Tryz.prog W = .ok (.agg #[.int .i64 0, .int .i64 0, .string ⟨#[]⟩, .slice none 0 0]) W := fun W => run_build W 50 _ _ (by kernel_rfl)
  have HB := Lib.hid (below_2 w (.cells #[.int .i64 k, .int .i64 n, .string s, .slice A m c] 50) (.cells #[.int .i64 0, .int .i64 0, .string ⟨#[]⟩, .slice none 0 0] 50))
  have HR := Lib.hid (show ((w.alloc (.cells #[.int .i64 k, .int .i64 n, .string s, .slice A m c] 50)).alloc (.cells #[.int .i64 0, .int .i64 0, .string ⟨#[]⟩, .slice none 0 0] 50)).heap[w.heap.size]? = some (.cells #[.int .i64 k, .int .i64 n, .string s, .slice A m c] 50 (0, 0)) from (Below.heap_alloc _ _ _ (by simp)).trans (heap_alloc_new w _))
  obtain ⟨p0, p1, p2, p3, _⟩ := row4 HR.out
  go_enter Tryz.func36, Tryz.ntmps36
  go_wp2_with fail
  refine bodyPost_ret (v := .agg #[.int .i64 0, .int .i64 0, .string ⟨#[]⟩, .slice none 0 0]) (by simp [results, Tryz.results36, go_sem]) rfl ⟨rfl, ?_⟩
  exact HB.out
set_option maxHeartbeats 1000000 in
theorem part_yes (k n : Int) (s : ByteArray) (b off m c j : Nat) (hj : j < m) (k2 n2 : Int) (s2 : ByteArray) (A2 : Option Addr) (m2 c2 : Nat) (w : World) (hb : b < w.heap.size)
    (h0 : w.cell? ⟨b, off + j * 4, none⟩ = some (.int .i64 k2)) (h1 : w.cell? ⟨b, off + j * 4 + 1, none⟩ = some (.int .i64 n2)) (h2 : w.cell? ⟨b, off + j * 4 + 2, none⟩ = some (.string s2)) (h3 : w.cell? ⟨b, off + j * 4 + 3, none⟩ = some (.slice A2 m2 c2)) :
    Calls Tryz.prog 36 #[.agg #[.int .i64 k, .int .i64 n, .string s, .slice (some ⟨b, off, none⟩) m c], .int .i64 (j : Int)] w (RetBelow (.agg #[.int .i64 k2, .int .i64 n2, .string s2, .slice A2 m2 c2]) w) := by
  have g1 : decide ((j : Int) < 0) = false := by simp
  have g2 : decide ((m : Int) ≤ (j : Int)) = false := by simp; omega
  have g3 : decide (m ≤ j) = false := by simp; omega
  have HB := Lib.hid (below_2 w (.cells #[.int .i64 k, .int .i64 n, .string s, .slice (some ⟨b, off, none⟩) m c] 50) (.cells #[.int .i64 0, .int .i64 0, .string ⟨#[]⟩, .slice none 0 0] 50))
  have HR := Lib.hid (show ((w.alloc (.cells #[.int .i64 k, .int .i64 n, .string s, .slice (some ⟨b, off, none⟩) m c] 50)).alloc (.cells #[.int .i64 0, .int .i64 0, .string ⟨#[]⟩, .slice none 0 0] 50)).heap[w.heap.size]? = some (.cells #[.int .i64 k, .int .i64 n, .string s, .slice (some ⟨b, off, none⟩) m c] 50 (0, 0)) from (Below.heap_alloc _ _ _ (by simp)).trans (heap_alloc_new w _))
  obtain ⟨p0, p1, p2, p3, _⟩ := row4 HR.out
  have e0 := cellB h0 HB.out hb
  have e1 := cellB h1 HB.out hb
  have e2 := cellB h2 HB.out hb
  have e3 := cellB h3 HB.out hb
  clear h0 h1 h2 h3
  go_enter Tryz.func36, Tryz.ntmps36
  go_wp2_with fail
  refine bodyPost_ret (v := .agg #[.int .i64 k2, .int .i64 n2, .string s2, .slice A2 m2 c2]) (by simp [results, Tryz.results36, go_sem]) rfl ⟨rfl, ?_⟩
  exact below_2 w _ _
/-- Part: its answer is the same wherever the item's blocks stay -/
theorem part_any {w : World} {t : It} {v : Value} (j : Nat) (h : IsIt w (· < w.heap.size) t v) : ∃ u, IsIt w (· < w.heap.size) (part t j) u ∧ ∀ X, Below w.heap.size w X → Calls Tryz.prog 36 #[v, .int .i64 (j : Int)] X (RetBelow u X) := by
  obtain ⟨k, s, A, c, rfl, _, _, _, _, hal⟩ := IsIt.form h
  by_cases hj : j < (elsP t).length
  · obtain ⟨b, off, u0, u1, u2, u3, rfl, hb, h0, h1, h2, h3, hI⟩ := hal.at_ (k := j) (List.getElem?_eq_getElem hj)
    rw [Nat.zero_add] at h0 h1 h2 h3
    obtain ⟨k2, n2, s2, A2, m2, c2, rfl, rfl, rfl, rfl⟩ := hI.parts
    refine ⟨_, ?_, fun X hX => part_yes k _ s b off _ c j hj k2 n2 s2 A2 m2 c2 X (Nat.lt_of_lt_of_le hb hX.size) (cellB h0 hX hb) (cellB h1 hX hb) (cellB h2 hX hb) (cellB h3 hX hb)⟩
    unfold part
    rw [List.getElem?_eq_getElem hj]
    exact hI
  · refine ⟨_, ?_, fun X hX => part_no k _ s A _ c j hj X⟩
    unfold part
    rw [List.getElem?_eq_none (by omega)]
    exact isIt_zero w _
theorem fld1 (k n : Int) (s : ByteArray) (A : Option Addr) (m c : Nat) (w : World) : (Instr.field 50 (.agg #[.int .i64 k, .int .i64 n, .string s, .slice A m c]) 1).run Tryz.prog w = .ok (.int .i64 n) w := by kernel_rfl
theorem fld2 (k n : Int) (s : ByteArray) (A : Option Addr) (m c : Nat) (w : World) : (Instr.field 50 (.agg #[.int .i64 k, .int .i64 n, .string s, .slice A m c]) 2).run Tryz.prog w = .ok (.string s) w := by kernel_rfl
theorem fld3 (k n : Int) (s : ByteArray) (A : Option Addr) (m c : Nat) (w : World) : (Instr.field 50 (.agg #[.int .i64 k, .int .i64 n, .string s, .slice A m c]) 3).run Tryz.prog w = .ok (.slice A m c) w := by kernel_rfl
theorem row3f {w : World} {b : Nat} {a0 a1 a2 : Value} {t : TypeId} (h : w.heap[b]? = some (.cells #[a0, a1, a2] t (0, 0))) : w.cell? ⟨b, 0, none⟩ = some a0 ∧ w.cell? ⟨b, 1, none⟩ = some a1 ∧ w.cell? ⟨b, 2, none⟩ = some a2 ∧ w.frozen? ⟨b, 0, none⟩ = false ∧ w.frozen? ⟨b, 1, none⟩ = false ∧ w.frozen? ⟨b, 2, none⟩ = false := by
  refine ⟨?_, ?_, ?_, ?_, ?_, ?_⟩
  all_goals first | exact Lib.frozen_of_heap h _ | (rw [Lib.cell_of_heap h]; rfl)
end Go.Proofs.YtebacdegjmcnlaaGreat
