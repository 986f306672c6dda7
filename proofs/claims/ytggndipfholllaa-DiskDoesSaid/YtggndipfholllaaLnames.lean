import Derived.Test.YtggndipfholllaaLrow
namespace Go.Proofs.Ytggndipfholllaa
open Go.RowKit
open PlainDisk (File Disk)
set_option linter.unusedVariables false


set_option maxRecDepth 100000 in
theorem names_same (w : World) (b1 b2 : Nat) (v1 v2 : Value) (l : List (List UInt8)) (h1 : OwnS w b1 v1 l) (h2 : OwnS w b2 v2 l) (hl : l.length ≤ 1000) :
    Calls Try.prog 31 #[v1, v2] w fun e w' => e = .returned (.bool true) ∧ Below w.heap.size w w' := by
  obtain ⟨A1, c1, rfl, _, _⟩ := h1.slice
  obtain ⟨A2, c2, rfl, _, _⟩ := h2.slice
  have H1 := Lib.hid h1
  have H2 := Lib.hid h2
  clear h1 h2
  go_enter Try.func31, Try.ntmps31
  go_wp2_with fail
  go_loopw [13] (fun iV wr => ∃ (i : Nat), iV = .int .i64 (i : Nat) ∧ i ≤ l.length ∧ Below w.heap.size w wr) (fun iV _ => l.length - (numOf iV).toNat)
  case atStart => exact ⟨0, rfl, by omega, Below.refl _ _⟩
  case round =>
    obtain ⟨i, rfl, hi, hb⟩ := hrel
    have HB := Lib.hid hb
    by_cases hil : i < l.length
    · obtain ⟨x, hx⟩ : ∃ x, l[i]? = some x := ⟨_, List.getElem?_eq_getElem hil⟩
      obtain ⟨g1, e1, q1⟩ := (H1.out.belows hb.drew).at2 hx
      obtain ⟨g2, e2, q2⟩ := (H2.out.belows hb.drew).at2 hx
      subst e1 e2
      clear hx hb
      go_wp2_with fail
      go_still (by kernel_rfl)
      change Exit.then _ _ _ _ (World.drew _)
      go_wp2_with fail
      go_roundw
      case rel => exact ⟨i + 1, rfl, by omega, HB.out.drew⟩
      case measure => simp [numOf]; omega
    · clear hb
      go_wp2_with fail
      go_ret
      exact ⟨rfl, HB.out⟩
end Go.Proofs.Ytggndipfholllaa
