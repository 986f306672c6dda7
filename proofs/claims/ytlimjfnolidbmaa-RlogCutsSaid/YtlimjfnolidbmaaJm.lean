import Derived.Test.YtlimjfnolidbmaaIm
namespace Go.Proofs.Ytlimjfnolidbmaa
set_option maxRecDepth 20000
open Go.RowKit RL
set_option linter.unusedVariables false
/-! ### Put -/
theorem diff_some {T : Lg} {p : Int} : ∀ {l : List En} {n k : Nat}, T.diff p l n = some k → ∃ j x, k = n + j ∧ l[j]? = some x ∧ T.term (p + 1 + (k : Int)) ≠ some x.t ∧ ∀ (i : Nat) (y : En), i < j → l[i]? = some y → T.term (p + 1 + ((n + i : Nat) : Int)) = some y.t
  | [], n, k, h => by cases h
  | x :: r, n, k, h => by
    unfold Lg.diff at h
    split at h
    · rename_i h1
      obtain ⟨j, y, h2, h3, h4, h5⟩ := diff_some h
      refine ⟨j + 1, y, by omega, by simpa using h3, h4, fun i z hi hz => ?_⟩
      cases i with
      | zero =>
        obtain rfl : x = z := by simpa using hz
        exact h1
      | succ i =>
        have := h5 i z (by omega) (by simpa using hz)
        rw [show n + (i + 1) = n + 1 + i by omega]
        exact this
    · rename_i h1
      injection h with h
      subst h
      exact ⟨0, x, rfl, rfl, h1, fun i y hi => absurd hi (Nat.not_lt_zero _)⟩
theorem diff_none {T : Lg} {p : Int} : ∀ {l : List En} {n : Nat}, T.diff p l n = none → ∀ (i : Nat) (y : En), l[i]? = some y → T.term (p + 1 + ((n + i : Nat) : Int)) = some y.t
  | [], n, h, i, y, hy => by simp at hy
  | x :: r, n, h, i, y, hy => by
    unfold Lg.diff at h
    split at h
    · rename_i h1
      cases i with
      | zero =>
        obtain rfl : x = y := by simpa using hy
        exact h1
      | succ i =>
        have := diff_none h i y (by simpa using hy)
        rw [show n + (i + 1) = n + 1 + i by omega]
        exact this
    · cases h
/-- from a place on where all ahead of it are there -/
theorem diff_at {T : Lg} {p : Int} : ∀ {l : List En} {j : Nat}, (∀ (i : Nat) (y : En), i < j → l[i]? = some y → T.term (p + 1 + (i : Int)) = some y.t) → ∀ {x : En}, l[j]? = some x → T.term (p + 1 + (j : Int)) ≠ some x.t → T.diff p l 0 = some j := by
  intro l j h x hx hne
  cases hd : T.diff p l 0 with
  | none =>
    have := diff_none hd j x hx
    rw [Nat.zero_add] at this
    exact absurd this hne
  | some k =>
    obtain ⟨m, y, h2, h3, h4, h5⟩ := diff_some hd
    obtain rfl : k = m := by omega
    rcases Nat.lt_trichotomy k j with q | q | q
    · have := h k y q h3
      exact absurd this h4
    · rw [q]
    · have := h5 j x q hx
      rw [Nat.zero_add] at this
      exact absurd this hne
theorem diff_all {T : Lg} {p : Int} {l : List En} (h : ∀ (i : Nat) (y : En), l[i]? = some y → T.term (p + 1 + (i : Int)) = some y.t) : T.diff p l 0 = none := by
  cases hd : T.diff p l 0 with
  | none => rfl
  | some k =>
    obtain ⟨m, y, h2, h3, h4, h5⟩ := diff_some hd
    obtain rfl : k = m := by omega
    exact absurd (h k y h3) h4
/-- what a log becomes that was put to -/
theorem inv_put {T : Lg} (h : Inv T) {p : Int} {l : List En} (hl : ∀ x ∈ l, I64 x.t) (hp : T.i ≤ p) (hM : p + l.length ≤ 4611686018427387904) (hn : T.L.length + l.length ≤ 500000) : Inv (T.putAt p l).1 := by
  unfold Lg.putAt
  cases hd : T.diff p l 0 with
  | none => exact h
  | some k =>
    obtain ⟨m, y, h2, h3, h4, h5⟩ := diff_some hd
    obtain rfl : k = m := by omega
    have hk := (List.getElem?_eq_some_iff.1 h3).1
    refine ⟨h.i0, ?_, h.tt, fun x hx => ?_, ?_⟩
    · simp only [List.length_append, List.length_take, List.length_drop]
      omega
    · rcases List.mem_append.1 hx with q | q
      · exact h.all x (List.mem_of_mem_take q)
      · exact hl x (List.mem_of_mem_drop q)
    · simp only [List.length_append, List.length_take, List.length_drop]
      omega
theorem refuse_zero {T : Lg} {p t : Int} {n : Nat} (h : T.refuse p t n = 0) : 0 ≤ p ∧ p + n ≤ 4611686018427387904 ∧ (p < T.i → T.i < p + n) ∧ (T.i ≤ p → T.term p = some t) := by
  unfold Lg.refuse at h
  split at h
  · cases h
  · split at h
    · cases h
    · split at h
      · cases h
      · rename_i h1 h2 h3
        refine ⟨by omega, by omega, fun q => by omega, fun q => ?_⟩
        cases ht : T.term p with
        | none => exact absurd ⟨q, by rw [ht]; simp⟩ h3
        | some u =>
          by_cases e : u = t
          · rw [e]
          · exact absurd ⟨q, by rw [ht]; simpa using e⟩ h3
theorem inv_put2 {T : Lg} (h : Inv T) {p t : Int} {l : List En} (hl : ∀ x ∈ l, I64 x.t) (hn : T.L.length + l.length ≤ 500000) : Inv (T.put p t l).1 := by
  unfold Lg.put
  split
  · rename_i hr
    obtain ⟨h1, h2, h3, h4⟩ := refuse_zero hr
    split
    · rename_i hp
      have := h3 hp
      refine inv_put h (fun x hx => hl x (List.mem_of_mem_drop hx)) (by omega) ?_ ?_
      · rw [List.length_drop]; omega
      · rw [List.length_drop]; omega
    · exact inv_put h hl (by omega) h2 hn
  · exact h
end Go.Proofs.Ytlimjfnolidbmaa
