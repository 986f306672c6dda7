import Derived.Test.YtphclpjekpdifaaRi
import Derived.Test.YtphclpjekpdifaaOw
namespace Go.Proofs.Ytphclpjekpdifaa
open Go.RowKit
set_option linter.unusedVariables false
/-! ### a region that stores whole into one block -/
def RlZ (z : Nat) (o : Obj) (w w' : World) : Prop := Fr (· = z) w w' ∧ (w'.heap[z]? = w.heap[z]? ∨ w'.heap[z]? = some o)
def CZ (W : World) (z : Nat) (o0 o : Obj) (w : World) : Prop := Fr (· = z) W w ∧ (w.heap[z]? = some o0 ∨ w.heap[z]? = some o)
theorem RlZ.refl (z : Nat) (o : Obj) (w : World) : RlZ z o w w := ⟨Fr.refl _ _, .inl rfl⟩
theorem CZ.start {W : World} {z : Nat} {o0 o : Obj} (h : W.heap[z]? = some o0) : CZ W z o0 o W.drew := ⟨(Fr.refl _ W).drew, .inl h⟩
theorem CZ.lt {W : World} {z : Nat} {o0 o : Obj} {w : World} (h : CZ W z o0 o w) : z < w.heap.size := by
  rcases h.2 with q | q <;> exact (Array.getElem?_eq_some_iff.1 q).1
theorem CZ.below {W : World} {z : Nat} {o0 o : Obj} {w w' : World} (h : CZ W z o0 o w) (hb : Below w.heap.size w w') : CZ W z o0 o w' := by
  have e := hb.block z h.lt
  exact ⟨h.1.trans (Fr.of_below (S := (· = z)) hb) fun i q => .inl q, h.2.elim (fun q => .inl (e.trans q)) fun q => .inr (e.trans q)⟩
theorem CZ.rel {W : World} {z : Nat} {o0 o : Obj} {w w' : World} (h : CZ W z o0 o w) (hb : Below w.heap.size w w') : RlZ z o w w' := ⟨Fr.of_below hb, .inl (hb.block z h.lt)⟩
theorem CZ.block {W : World} {z : Nat} {o0 o : Obj} {w : World} (h : CZ W z o0 o w) {q : Nat} (hq : q < W.heap.size) (hz : q ≠ z) : w.heap[q]? = W.heap[q]? := h.1.block q hq hz
theorem RlZ.keep {z : Nat} {o : Obj} {w w' : World} (h : RlZ z o w w') (hs : w.heap[z]? = some o) : w'.heap[z]? = some o := h.2.elim (fun q => q.trans hs) fun q => q
theorem CZ.stored {W : World} {z : Nat} {o0 o : Obj} {w w' : World} (h : CZ W z o0 o w) (hf : Fr (· = z) w w') (hs : w'.heap[z]? = some o) : CZ W z o0 o w' ∧ RlZ z o w w' := ⟨⟨h.1.trans hf fun i q => .inl q, .inr hs⟩, hf, .inr hs⟩
end Go.Proofs.Ytphclpjekpdifaa
