import Derived.Test.YtlimjfnolidbmaaPp
namespace Go.Proofs.Ytlimjfnolidbmaa
open RL
set_option linter.unusedVariables false
/-! ### plain: a cut changes nothing behind it -/
theorem from_all' {T : Lg} {n : Int} (h : (T.L.length : Int) ≤ n) : T.from_ (T.i + 1) n = T.L := by
  unfold Lg.from_ Lg.last
  split
  · rename_i q
    have : T.L.length = 0 := by omega
    exact (List.eq_nil_of_length_eq_zero this).symm
  · rw [show (T.i + 1 - T.i - 1).toNat = 0 by omega, List.drop_zero, List.take_of_length_le (by omega)]
structure Rel (G H : Lg) (c : Int) : Prop where
  gi : G.i = c
  hi : H.i ≤ c
  hl : c ≤ H.last
  tt : H.term c = some G.t
  ll : G.L = H.L.drop (c - H.i).toNat
theorem rel_cut {H : Lg} {c t : Int} (h : H.term c = some t) : Rel (H.move c t) H c := by
  obtain ⟨h1, h2⟩ := term_known.1 ⟨_, h⟩
  exact ⟨rfl, h1, h2, h, rfl⟩
section
variable {G H : Lg} {c : Int}
theorem rel_len (h : Rel G H c) : G.L.length = H.L.length - (c - H.i).toNat := by rw [h.ll, List.length_drop]
theorem rel_last (h : Rel G H c) : G.last = H.last := by
  have h1 := rel_len h
  have h2 := h.hi
  have h3 := h.hl
  have h4 := h.gi
  unfold Lg.last at *
  omega
theorem rel_term (h : Rel G H c) {k : Int} (hk : c ≤ k) : G.term k = H.term k := by
  have h4 := h.gi
  rcases Int.lt_or_eq_of_le hk with q | q
  · rw [term_gt (by omega), term_gt (by have := h.hi; omega), h.ll, List.getElem?_drop]
    congr 2
    have := h.hi
    omega
  · subst q
    rw [h.tt, ← h4, term_base]
theorem rel_lterm (h : Rel G H c) : G.lterm = H.lterm := by
  unfold Lg.lterm
  rw [rel_last h, rel_term h h.hl]
theorem rel_diff (h : Rel G H c) {p : Int} (hp : c ≤ p) : ∀ (l : List En) (n : Nat), G.diff p l n = H.diff p l n
  | [], n => rfl
  | x :: r, n => by
    unfold Lg.diff
    rw [rel_term h (by omega), rel_diff h hp r (n + 1)]
theorem rel_refuse (h : Rel G H c) {p : Int} (hp : c ≤ p) (t : Int) (n : Nat) : G.refuse p t n = H.refuse p t n := by
  have h4 := h.gi
  have h5 := h.hi
  unfold Lg.refuse
  rw [rel_term h hp]
  by_cases q1 : p < 0 ∨ 4611686018427387904 - (n : Int) < p
  · rw [if_pos q1, if_pos q1]
  · have n1 : ¬ (p < G.i ∧ p + (n : Int) ≤ G.i) := by omega
    have n2 : ¬ (p < H.i ∧ p + (n : Int) ≤ H.i) := by omega
    by_cases q2 : H.term p ≠ some t
    · have m1 : G.i ≤ p ∧ H.term p ≠ some t := ⟨by omega, q2⟩
      have m2 : H.i ≤ p ∧ H.term p ≠ some t := ⟨by omega, q2⟩
      rw [if_neg q1, if_neg q1, if_neg n1, if_pos m1, if_neg n2, if_pos m2]
    · have m1 : ¬ (G.i ≤ p ∧ H.term p ≠ some t) := fun q => q2 q.2
      have m2 : ¬ (H.i ≤ p ∧ H.term p ≠ some t) := fun q => q2 q.2
      rw [if_neg q1, if_neg q1, if_neg n1, if_neg m1, if_neg n2, if_neg m2]
theorem rel_putAt (h : Rel G H c) {p : Int} (hp : c ≤ p) (hl : p ≤ H.last) (l : List En) : (G.putAt p l).2 = (H.putAt p l).2 ∧ Rel (G.putAt p l).1 (H.putAt p l).1 c := by
  unfold Lg.putAt
  rw [rel_diff h hp]
  cases hd : H.diff p l 0 with
  | none => exact ⟨rfl, h⟩
  | some k =>
    have h4 := h.gi
    have h5 := h.hi
    obtain ⟨hr, _⟩ := diff_room (by omega) hl hd
    refine ⟨rfl, h4, h5, ?_, ?_, ?_⟩
    · unfold Lg.last
      simp only [List.length_append, List.length_take]
      omega
    · show (⟨H.i, H.t, H.L.take (p + (k : Int) - H.i).toNat ++ l.drop k⟩ : Lg).term c = some G.t
      rw [term_take hr (by omega)]
      exact h.tt
    · show G.L.take (p + (k : Int) - G.i).toNat ++ l.drop k = (H.L.take (p + (k : Int) - H.i).toNat ++ l.drop k).drop (c - H.i).toNat
      rw [List.drop_append_of_le_length (by rw [List.length_take]; omega), h.ll, List.drop_take]
      congr 2
      omega
theorem rel_put (h : Rel G H c) {p : Int} (hp : c ≤ p) (t : Int) (l : List En) : (G.put p t l).2 = (H.put p t l).2 ∧ Rel (G.put p t l).1 (H.put p t l).1 c := by
  have h4 := h.gi
  have h5 := h.hi
  unfold Lg.put
  rw [rel_refuse h hp]
  by_cases hr : H.refuse p t l.length = 0
  · obtain ⟨_, _, _, h6⟩ := refuse_zero hr
    have hl := (term_known.1 ⟨_, h6 (by omega)⟩).2
    obtain ⟨e1, e2⟩ := rel_putAt h hp hl l
    rw [if_pos hr, if_pos hr, if_neg (by omega), if_neg (by omega)]
    exact ⟨by rw [e1], e2⟩
  · rw [if_neg hr, if_neg hr]
    exact ⟨rfl, h⟩
theorem rel_from (h : Rel G H c) {n : Int} (hn : (H.L.length : Int) ≤ n) : G.from_ (c + 1) n = G.L ∧ H.from_ (c + 1) n = G.L := by
  have h4 := h.gi
  have h5 := h.hi
  have h6 := rel_len h
  refine ⟨by have := from_all' (T := G) (n := n) (by omega); rw [h4] at this; exact this, ?_⟩
  unfold Lg.from_ Lg.last
  split
  · rename_i q
    have : G.L.length = 0 := by omega
    exact (List.eq_nil_of_length_eq_zero this).symm
  · rw [show (c + 1 - H.i - 1).toNat = (c - H.i).toNat by omega, ← h.ll, List.take_of_length_le (by omega)]
end
end Go.Proofs.Ytlimjfnolidbmaa
