import Derived.Test.YtebacdegjmcnlaaGreatUf
import Derived.Test.YtebacdegjmcnlaaGreatWg
import Derived.Test.YtebacdegjmcnlaaGreatXr
import Derived.Test.YtebacdegjmcnlaaGreatMy
import Derived.Deep.RegionHeld2
namespace Go.Proofs.YtebacdegjmcnlaaGreat
open Go.RowKit Pl
set_option linter.unusedVariables false
set_option maxRecDepth 20000
/-- what may be read back is what stands there -/
theorem backR {l : List UInt8} {k m : Int} {z : ByteArray} {q : List It} {x : T6} (hd : dec l = some (.mk k m z q)) (h : resR l = some x) : q.length = 4 ∧ ∀ i0 i1 i2 i3, q = [i0, i1, i2, i3] → mayR (num i0) (tx i1) = true ∧ l = (rIt (num i0) (tx i1) (nmAt (els i2) 0) (nmAt (els i2) 1) (nmAt (els i2) 2) (num i3)).enc ∧ 0 ≤ num i0 ∧ num i0 ≤ 255 := by
  obtain ⟨o, s, a, b, c, n⟩ := x
  obtain ⟨hm, r1, r2, r3, r4, r5, rfl⟩ := (resR_iff l o s a b c n).1 h
  obtain ⟨q0, q1, s1⟩ := mayR_size hm
  rw [rIt_dec o s a b c n r1 r2 r3 r4 r5 (by omega)] at hd
  simp only [rIt, Option.some.injEq, It.mk.injEq] at hd
  obtain ⟨_, _, _, rfl⟩ := hd
  refine ⟨rfl, fun i0 i1 i2 i3 hq => ?_⟩
  simp only [List.cons.injEq, and_true] at hq
  obtain ⟨rfl, rfl, rfl, rfl⟩ := hq
  exact ⟨hm, rfl, by simp only [num, nIt]; omega, by simp only [num, nIt]; omega⟩
end Go.Proofs.YtebacdegjmcnlaaGreat
