import Derived.Test.YtebacdegjmcnlaaMb
import Derived.Deep.RegionHeld3
namespace Go.Proofs.Ytebacdegjmcnlaa
open Go.RowKit Pl
set_option linter.unusedVariables false
set_option maxRecDepth 20000

theorem are_row {w : World} {S : Nat → Prop} {b : Nat} {ts : List It} {us : List Value} {t : TypeId} (hb : S b) (hI : ItsIn w S ts us) (h : w.heap[b]? = some (.cells us.toArray t (0, 0))) : AreIts w S ts (some ⟨b, 0, none⟩) 0 :=
  ItsIn.are hb hI fun j u hu => by rw [Nat.zero_mul, Nat.zero_add]; exact cell_of_row _ _ j _ _ _ h |>.trans (by simpa using hu)
theorem isIt_nIt (w : World) (S : Nat → Prop) (n : Int) (h : InR n) : IsIt w S (nIt n) (.agg #[.int .i64 1, .int .i64 n, .string ⟨#[]⟩, .slice none 0 0]) := isIt_num w S 1 n ⟨by omega, by omega⟩ h
theorem isIt_sIt (w : World) (S : Nat → Prop) (s : ByteArray) (h : s.size ≤ maxLen) : IsIt w S (sIt s) (.agg #[.int .i64 2, .int .i64 0, .string s, .slice none 0 0]) := isIt_str w S s h
theorem isIt_row (w : World) (S : Nat → Prop) (ts : List It) (A : Option Addr) (c : Nat) (hl : ts.length ≤ maxLen) (h : AreIts w S ts A 0) : IsIt w S (.mk 3 0 ⟨#[]⟩ ts) (.agg #[.int .i64 3, .int .i64 0, .string ⟨#[]⟩, .slice A ts.length c]) := by
  rw [IsIt]
  exact ⟨A, c, rfl, ⟨by omega, by omega⟩, ⟨by omega, by omega⟩, by simp [zero_size], hl, h⟩

theorem w4_cell (w : World) (R : Nat) (a b c d : Value) (q k : Nat) (h : q ≠ R) : ((((w.setCell ⟨R, 0, none⟩ a).setCell ⟨R, 1, none⟩ b).setCell ⟨R, 2, none⟩ c).setCell ⟨R, 3, none⟩ d).cell? ⟨q, k, none⟩ = w.cell? ⟨q, k, none⟩ :=
  World.cell?_of_block (w := w) (w4_far w R a b c d q h)
theorem w4_three {w : World} {p R : Nat} {x y z : Value} (a b c d : Value) (h : w.cell? ⟨p, 0, none⟩ = some x ∧ w.cell? ⟨p, 1, none⟩ = some y ∧ w.cell? ⟨p, 2, none⟩ = some z) (hne : p ≠ R) :
    ((((w.setCell ⟨R, 0, none⟩ a).setCell ⟨R, 1, none⟩ b).setCell ⟨R, 2, none⟩ c).setCell ⟨R, 3, none⟩ d).cell? ⟨p, 0, none⟩ = some x ∧
    ((((w.setCell ⟨R, 0, none⟩ a).setCell ⟨R, 1, none⟩ b).setCell ⟨R, 2, none⟩ c).setCell ⟨R, 3, none⟩ d).cell? ⟨p, 1, none⟩ = some y ∧
    ((((w.setCell ⟨R, 0, none⟩ a).setCell ⟨R, 1, none⟩ b).setCell ⟨R, 2, none⟩ c).setCell ⟨R, 3, none⟩ d).cell? ⟨p, 2, none⟩ = some z :=
  ⟨(w4_cell w R a b c d p 0 hne).trans h.1, (w4_cell w R a b c d p 1 hne).trans h.2.1, (w4_cell w R a b c d p 2 hne).trans h.2.2⟩
/-- the end of a call whose result is a list of items, put into the block R -/
theorem row_post {w wc w5 : World} {R c : Nat} {us : List Value} {ts : List It} {z0 z1 z2 z3 : Value} (hR : w.heap.size ≤ R) (hc : Below w.heap.size w wc) (h5 : Below (wc.heap.size + 1) (wc.alloc (.cells us.toArray 56)) w5)
    (hR5 : w5.heap[R]? = some (.cells #[z0, z1, z2, z3] 56 (0, 0))) (hne : R < wc.heap.size) (hl : ts.length ≤ maxLen)
    (hI : ItsIn (w4 w5 R (.int .i64 3) (.int .i64 0) (.string ⟨#[]⟩) (.slice (some ⟨wc.heap.size, 0, none⟩) ts.length c)) (NewB w (w4 w5 R (.int .i64 3) (.int .i64 0) (.string ⟨#[]⟩) (.slice (some ⟨wc.heap.size, 0, none⟩) ts.length c))) ts us) :
    ItPost (.mk 3 0 ⟨#[]⟩ ts) w (.returned (.agg #[.int .i64 3, .int .i64 0, .string ⟨#[]⟩, .slice (some ⟨wc.heap.size, 0, none⟩) ts.length c])) (w4 w5 R (.int .i64 3) (.int .i64 0) (.string ⟨#[]⟩) (.slice (some ⟨wc.heap.size, 0, none⟩) ts.length c)) := by
  have WF := w4_far w5 R (.int .i64 3) (.int .i64 0) (.string ⟨#[]⟩) (.slice (some ⟨wc.heap.size, 0, none⟩) ts.length c)
  have WS := w4_size w5 R (.int .i64 3) (.int .i64 0) (.string ⟨#[]⟩) (.slice (some ⟨wc.heap.size, 0, none⟩) ts.length c)
  have WB := w4_below w5 w.heap.size R (.int .i64 3) (.int .i64 0) (.string ⟨#[]⟩) (.slice (some ⟨wc.heap.size, 0, none⟩) ts.length c) hR
  generalize w4 w5 R (.int .i64 3) (.int .i64 0) (.string ⟨#[]⟩) (.slice (some ⟨wc.heap.size, 0, none⟩) ts.length c) = W at *
  have hs5 := h5.size
  have hsc := hc.size
  have hsA : (wc.alloc (.cells us.toArray 56)).heap.size = wc.heap.size + 1 := by simp
  refine ⟨_, rfl, ((hc.alloc hsc _).trans (h5.mono (by omega))).trans WB, isIt_row W _ ts _ c hl (are_row (t := 56) ⟨by omega, by omega⟩ hI ?_)⟩
  exact (WF _ (by omega)).trans ((h5.block _ (by omega)).trans (heap_alloc_new _ _))
end Go.Proofs.Ytebacdegjmcnlaa
