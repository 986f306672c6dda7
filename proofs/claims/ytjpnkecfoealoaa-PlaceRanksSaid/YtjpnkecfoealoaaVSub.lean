import Derived.Test.YtjpnkecfoealoaaVVc
namespace Go.Proofs.Ytjpnkecfoealoaa.Vc
set_option maxRecDepth 20000
open Go.RowKit
set_option linter.unusedVariables false
/-- the world has grown; of what was there the block g alone may have changed -/
theorem TotAt.zero (w : World) : TotAt (w.alloc (.cells #[.int .i64 0, .int .i64 0, .int .i64 0, .int .i64 0, .int .i64 0, .int .i64 0] 73)) w.heap.size 0 0 0 := by
  have e1 : hi 0 = 0 := by decide
  have e2 : lo 0 = 0 := by decide
  constructor
  all_goals first | (rw [e1]; simp [go_sem]) | (rw [e2]; simp [go_sem]) | simp [go_sem]
theorem big0 : Big 0 := by unfold Big; omega
theorem big_of (x : Int) (h : I64 x) : Big (0 + x) := by unfold I64 at h; unfold Big; omega
/-- a Vec in block b -/
def BK (W : World) (b : Nat) (x y z : Int) : Prop := W.heap[b]? = some (.cells #[.int .i64 x, .int .i64 y, .int .i64 z] 24 (0, 0))
theorem BK.c3 {W : World} {b : Nat} {x y z : Int} (h : BK W b x y z) : C3 W b x y z := by
  unfold BK at h
  refine ⟨?_, ?_, ?_⟩ <;> (rw [cell_of_row _ _ _ _ _ _ h]; rfl)
theorem BK.new (w : World) (x y z : Int) : BK (w.alloc (.cells #[.int .i64 x, .int .i64 y, .int .i64 z] 24)) w.heap.size x y z := heap_alloc_new w _
theorem BK.f0 {W : World} {b : Nat} {x y z : Int} (h : BK W b x y z) (k : Nat) : W.frozen? ⟨b, k, none⟩ = false := by
  unfold BK at h
  simp [World.frozen?, h]
theorem BK.lt {W : World} {b : Nat} {x y z : Int} (h : BK W b x y z) : b < W.heap.size := by
  unfold BK at h
  rcases Nat.lt_or_ge b W.heap.size with hh | hh
  · exact hh
  · rw [Array.getElem?_eq_none hh] at h; cases h
theorem BK.on {W W' : World} {b n : Nat} {x y z : Int} (h : BK W b x y z) (hb : Below n W W') (hl : b < n) : BK W' b x y z := (hb.block b hl).trans h
theorem BK.grown {W W' : World} {b g : Nat} {x y z : Int} (h : BK W b x y z) (hb : W.grownBy W' (some g)) (hl : b ≠ g) : BK W' b x y z := (hb.block b h.lt (by simpa using hl)).trans h
theorem BK.alloc {W : World} {b : Nat} {x y z : Int} (h : BK W b x y z) (o : Obj) : BK (W.alloc o) b x y z := h.on ((Below.refl _ W).alloc (Nat.le_refl _) o) h.lt
theorem outV_form (X Y Z : Int) : ∃ p q r e, outV X Y Z = .tuple #[.agg #[.int .i64 p, .int .i64 q, .int .i64 r], .int .i64 e] := by
  unfold outV
  split
  · exact ⟨_, _, _, _, rfl⟩
  · exact ⟨_, _, _, _, rfl⟩
end Go.Proofs.Ytjpnkecfoealoaa.Vc
