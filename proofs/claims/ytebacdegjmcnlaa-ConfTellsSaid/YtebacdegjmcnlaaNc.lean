import Derived.Test.YtebacdegjmcnlaaNb
import Derived.LoopN
import Derived.LoopTactic
namespace Go.Proofs.Ytebacdegjmcnlaa.Nm
open Go.RowKit
set_option linter.unusedVariables false

theorem g_at {s : ByteArray} {k : Nat} (h : k < s.size) : Pl.g s.data.toList k = (s[k]'h).toNat := by
  have h1 : k < s.data.toList.length := by rw [Array.length_toList]; exact h
  unfold Pl.g
  rw [List.getElem?_eq_getElem h1, Array.getElem_toList]
  rfl
theorem ret3 {a b a' b' : Int} {c c' : Bool} (h : a = a') (k : b = b') (m : c = c') : Ending.returned (.tuple #[.int .i64 a, .int .i64 b, .bool c]) = .returned (.tuple #[.int .i64 a', .int .i64 b', .bool c']) := by rw [h, k, m]

end Go.Proofs.Ytebacdegjmcnlaa.Nm
namespace Go.Proofs.Ytebacdegjmcnlaa.Nm
open Go.RowKit
set_option linter.unusedVariables false

theorem ct_iff {l : List UInt8} {k : Nat} (h : k < l.length) : Pl.ct l k = true ↔ (128 ≤ Pl.g l k ∧ Pl.g l k ≤ 191) := by
  unfold Pl.ct; simp [h]
theorem ct_out {l : List UInt8} {k : Nat} (h : ¬ k < l.length) : ¬ Pl.ct l k = true := by
  unfold Pl.ct; simp [h]
theorem bad1 : Pl.bad.1 = 65533 := rfl
theorem bad2 : Pl.bad.2.1 = 1 := rfl
theorem bad3 : Pl.bad.2.2 = false := rfl
theorem bad_ok {r : Nat × Nat × Bool} (h : r = Pl.bad) : (r.1 : Int) = 65533 ∧ (r.2.1 : Int) = 1 ∧ r.2.2 = false := by subst h; exact ⟨rfl, rfl, rfl⟩

end Go.Proofs.Ytebacdegjmcnlaa.Nm
namespace Go.Proofs.Ytebacdegjmcnlaa.Nm
open Go.RowKit
set_option linter.unusedVariables false

/-- a text behind its first n bytes, as the walk spells it -/
theorem extract_rest (l : List UInt8) (n : Nat) (z : Nat) (hz : z = l.length) : (str l).extract n z = str (l.drop n) := by
  subst hz
  rw [← str_size l, extract_back]; rfl

def szOf : Value → Nat
  | .string s => s.size
  | _ => 0

theorem alw_right {l : List UInt8} (h : alw (Pl.rune l).1 = true) : (Pl.rune l).2.2 = true := by
  cases hr : (Pl.rune l).2.2
  · rw [Pl.rune_bad hr] at h; cases h
  · rfl
theorem alw_okay (l : List UInt8) (h : (Pl.nums l).all alw = true) : Pl.okay l = true := by
  by_cases hl : l = []
  · subst hl; exact Pl.okay_nil
  · rw [Pl.nums_cons hl, List.all_cons, Bool.and_eq_true] at h
    have hbd := Pl.rune_bd l hl
    rw [Pl.okay_cons hl, alw_right h.1, Bool.true_and]
    exact alw_okay _ h.2
termination_by l.length
decreasing_by
  rw [List.length_drop]
  omega
theorem alw_is (c : Nat) : (alw c = true ∧ 33 ≤ (c : Int) ∧ ¬ (127 ≤ (c : Int) ∧ (c : Int) ≤ 160) ∧ (c : Int) ≠ 8232 ∧ (c : Int) ≠ 8233 ∧ (c : Int) ≠ 65533) ∨ (alw c = false ∧ ((c : Int) < 33 ∨ (127 ≤ (c : Int) ∧ (c : Int) ≤ 160) ∨ (c : Int) = 8232 ∨ (c : Int) = 8233 ∨ (c : Int) = 65533)) := by
  have h := alw_iff c
  cases hc : alw c
  · right
    rw [hc] at h
    refine ⟨rfl, ?_⟩
    by_cases q : (33 ≤ c ∧ ¬ (127 ≤ c ∧ c ≤ 160) ∧ c ≠ 8232 ∧ c ≠ 8233 ∧ c ≠ 65533)
    · exact absurd (h.2 q) (by decide)
    · omega
  · left
    have := h.1 hc
    exact ⟨rfl, by omega, by omega, by omega, by omega, by omega⟩

end Go.Proofs.Ytebacdegjmcnlaa.Nm
