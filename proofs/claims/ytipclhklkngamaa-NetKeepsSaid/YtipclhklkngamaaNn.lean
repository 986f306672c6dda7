import Derived.Test.YtipclhklkngamaaNm
namespace Go.Proofs.Ytipclhklkngamaa
open Go.ChangeShapes Go.WideShapes Go.ChangeAt Go.RowKit Go.Deep
set_option linter.unusedVariables false
section
variable {H : Type} {enc : TypeId × Value → H} {W : World} {base : Nat}
/-- an argument that is a letter -/
theorem let_arg {v : Value} {d : DataW H} {p : List MemPlace} (hv : Value.okWide Try.prog W .any base 32 v) (h : DataW.Trod enc Try.prog W 0 (fun _ => true) true 32 v d p) (hw : ∀ z ∈ d.weights Try.prog 32, z ≤ 140737488351232) :
    ∃ x : Let, v = letV x ∧ Fit x := by
  obtain ⟨cs, rfl, hsz⟩ := okWide_struct Try.underlying32 hv
  obtain ⟨fuel, hf⟩ := h
  obtain ⟨l⟩ := cs
  obtain ⟨x, hx, hfx, _⟩ := open_let (cs := l) hf hw
  subst hx
  exact ⟨x, rfl, hfx⟩
end
end Go.Proofs.Ytipclhklkngamaa
