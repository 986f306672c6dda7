import Derived.Test.YtlimjfnolidbmaaJm
namespace Go.Proofs.Ytlimjfnolidbmaa
open RL
set_option linter.unusedVariables false
/-! ### plain: what was put is there, put again it changes nothing -/
/-- the terms of a log up to where it is cut off and gone on with -/
theorem term_take {T : Lg} {K : Nat} {X : List En} (hK : K ≤ T.L.length) {k : Int} (hk : k ≤ T.i + K) : (⟨T.i, T.t, T.L.take K ++ X⟩ : Lg).term k = T.term k := by
  unfold Lg.term
  show (if k < T.i then none else if k = T.i then some T.t else ((T.L.take K ++ X)[(k - T.i - 1).toNat]?).map En.t) = _
  by_cases h1 : k < T.i
  · rw [if_pos h1, if_pos h1]
  · rw [if_neg h1, if_neg h1]
    by_cases h2 : k = T.i
    · rw [if_pos h2, if_pos h2]
    · rw [if_neg h2, if_neg h2, List.getElem?_append_left (by rw [List.length_take]; omega), List.getElem?_take_of_lt (by omega)]
theorem term_drop {T : Lg} {K : Nat} {X : List En} (hK : K ≤ T.L.length) {m : Nat} {x : En} (hm : X[m]? = some x) : (⟨T.i, T.t, T.L.take K ++ X⟩ : Lg).term (T.i + K + 1 + m) = some x.t := by
  unfold Lg.term
  show (if T.i + K + 1 + (m : Int) < T.i then none else if T.i + K + 1 + (m : Int) = T.i then some T.t else ((T.L.take K ++ X)[(T.i + K + 1 + (m : Int) - T.i - 1).toNat]?).map En.t) = _
  rw [if_neg (by omega), if_neg (by omega), List.getElem?_append_right (by rw [List.length_take]; omega), List.length_take, show (T.i + (K : Int) + 1 + (m : Int) - T.i - 1).toNat - min K T.L.length = m by omega, hm]
  rfl
/-- where the first entry that isn't there would stand: at most behind the last -/
theorem diff_room {T : Lg} {p : Int} {l : List En} {k : Nat} (hp : T.i ≤ p) (hl : p ≤ T.last) (h : T.diff p l 0 = some k) : (p + k - T.i).toNat ≤ T.L.length ∧ ∃ x, l[k]? = some x := by
  obtain ⟨m, y, h2, h3, h4, h5⟩ := diff_some h
  obtain rfl : k = m := by omega
  refine ⟨?_, y, h3⟩
  unfold Lg.last at hl
  rcases Nat.eq_zero_or_pos k with rfl | hk
  · omega
  · have hj := (List.getElem?_eq_some_iff.1 h3).1
    have := h5 (k - 1) _ (by omega) (List.getElem?_eq_getElem (by omega))
    have := (term_known.1 ⟨_, this⟩).2
    unfold Lg.last at this
    omega
theorem putAt_i (T : Lg) (p : Int) (l : List En) : (T.putAt p l).1.i = T.i ∧ (T.putAt p l).1.t = T.t := by
  unfold Lg.putAt
  cases T.diff p l 0 <;> exact ⟨rfl, rfl⟩
theorem put_i (T : Lg) (p t : Int) (l : List En) : (T.put p t l).1.i = T.i ∧ (T.put p t l).1.t = T.t := by
  unfold Lg.put
  split
  · split
    · exact putAt_i _ _ _
    · exact putAt_i _ _ _
  · exact ⟨rfl, rfl⟩
/-- up to where it was put, the terms are as they were; behind they are those that were put -/
theorem putAt_term {T : Lg} {p : Int} {l : List En} (hp : T.i ≤ p) (hl : p ≤ T.last) : (∀ k, k ≤ p → (T.putAt p l).1.term k = T.term k) ∧ ∀ (i : Nat) (x : En), l[i]? = some x → (T.putAt p l).1.term (p + 1 + (i : Int)) = some x.t := by
  unfold Lg.putAt
  cases hd : T.diff p l 0 with
  | none =>
    refine ⟨fun k _ => rfl, fun i x hx => ?_⟩
    have := diff_none hd i x hx
    rw [Nat.zero_add] at this
    exact this
  | some k =>
    obtain ⟨hr, _⟩ := diff_room hp hl hd
    obtain ⟨m, y, h2, h3, h4, h5⟩ := diff_some hd
    obtain rfl : k = m := by omega
    refine ⟨fun j hj => term_take hr (by omega), fun i x hx => ?_⟩
    rcases Nat.lt_or_ge i k with q | q
    · have h6 := h5 i x q hx
      rw [Nat.zero_add] at h6
      refine (term_take hr ?_).trans h6
      omega
    · have hx2 : (l.drop k)[i - k]? = some x := by rw [List.getElem?_drop, show k + (i - k) = i by omega]; exact hx
      have := term_drop (T := T) (K := (p + k - T.i).toNat) hr hx2
      rw [show T.i + (((p + (k : Int) - T.i).toNat : Nat) : Int) + 1 + ((i - k : Nat) : Int) = p + 1 + (i : Int) by omega] at this
      exact this
theorem putAt_again {T : Lg} {p : Int} {l : List En} (hp : T.i ≤ p) (hl : p ≤ T.last) : (T.putAt p l).1.putAt p l = ((T.putAt p l).1, 0) := by
  have h := (putAt_term (l := l) hp hl).2
  generalize (T.putAt p l).1 = T' at *
  unfold Lg.putAt
  rw [diff_all h]
theorem putAt_zero {T : Lg} {p : Int} {l : List En} (hp : 0 ≤ p) (h : (T.putAt p l).2 = 0) : (T.putAt p l).1 = T := by
  unfold Lg.putAt at *
  cases hd : T.diff p l 0 with
  | none => rfl
  | some k =>
    rw [hd] at h
    simp only at h
    omega
theorem put_err {T : Lg} {p t : Int} {l : List En} (h : (T.put p t l).2.2 ≠ 0) : T.put p t l = (T, 0, T.refuse p t l.length) ∧ T.refuse p t l.length ≠ 0 := by
  unfold Lg.put at *
  by_cases hr : T.refuse p t l.length = 0
  · rw [if_pos hr] at h
    split at h <;> simp at h
  · rw [if_neg hr]
    exact ⟨rfl, hr⟩
theorem last_ge (T : Lg) : T.i ≤ T.last := by unfold Lg.last; omega
/-- what was put is there -/
theorem put_there {T : Lg} (hi : 0 ≤ T.i) {p t : Int} {l : List En} (h : (T.put p t l).2.2 = 0) : ∀ (i : Nat) (x : En), l[i]? = some x → T.i < p + 1 + i → (T.put p t l).1.term (p + 1 + (i : Int)) = some x.t := by
  intro i x hx hlt
  unfold Lg.put at *
  by_cases hr : T.refuse p t l.length = 0
  · rw [if_pos hr]
    obtain ⟨h1, h2, h3, h4⟩ := refuse_zero hr
    by_cases hp : p < T.i
    · rw [if_pos hp]
      have hx2 : (l.drop (T.i - p).toNat)[i - (T.i - p).toNat]? = some x := by rw [List.getElem?_drop, show (T.i - p).toNat + (i - (T.i - p).toNat) = i by omega]; exact hx
      have := (putAt_term (T := T) (p := T.i) (l := l.drop (T.i - p).toNat) (Int.le_refl _) (last_ge T)).2 _ _ hx2
      rw [show T.i + 1 + ((i - (T.i - p).toNat : Nat) : Int) = p + 1 + (i : Int) by omega] at this
      exact this
    · rw [if_neg hp]
      exact (putAt_term (by omega) (term_known.1 ⟨_, h4 (by omega)⟩).2).2 i x hx
  · rw [if_neg hr] at h
    exact absurd h hr
theorem put_again {T : Lg} {p t : Int} {l : List En} (h : (T.put p t l).2.2 = 0) : (T.put p t l).1.put p t l = ((T.put p t l).1, 0, 0) := by
  by_cases hr : T.refuse p t l.length = 0
  · obtain ⟨h1, h2, h3, h4⟩ := refuse_zero hr
    have hi := (put_i T p t l).1
    by_cases hp : p < T.i
    · have e : (T.put p t l).1 = (T.putAt T.i (l.drop (T.i - p).toNat)).1 := by unfold Lg.put; rw [if_pos hr, if_pos hp]
      have ha := putAt_again (T := T) (p := T.i) (l := l.drop (T.i - p).toNat) (Int.le_refl _) (last_ge T)
      rw [← e] at ha
      generalize (T.put p t l).1 = T' at *
      have hr' : T'.refuse p t l.length = 0 := by
        unfold Lg.refuse
        rw [hi, if_neg (by omega), if_neg (by have := h3 hp; omega), if_neg (fun q => by omega)]
      unfold Lg.put
      rw [if_pos hr', hi, if_pos hp, ha]
    · have e : (T.put p t l).1 = (T.putAt p l).1 := by unfold Lg.put; rw [if_pos hr, if_neg hp]
      have hl := (term_known.1 ⟨_, h4 (by omega)⟩).2
      have ha := putAt_again (T := T) (p := p) (l := l) (by omega) hl
      have ht := (putAt_term (l := l) (T := T) (p := p) (by omega) hl).1 p (Int.le_refl _)
      rw [← e] at ha ht
      generalize (T.put p t l).1 = T' at *
      have hr' : T'.refuse p t l.length = 0 := by
        unfold Lg.refuse
        rw [hi, if_neg (by omega), if_neg (by omega), if_neg (fun q => q.2 (by rw [ht]; exact h4 (by omega)))]
      unfold Lg.put
      rw [if_pos hr', hi, if_neg hp, ha]
  · unfold Lg.put at h
    rw [if_neg hr] at h
    exact absurd h hr
theorem put_zero {T : Lg} (hi : 0 ≤ T.i) {p t : Int} {l : List En} (h : (T.put p t l).2.1 = 0) : (T.put p t l).1 = T := by
  unfold Lg.put at *
  by_cases hr : T.refuse p t l.length = 0
  · obtain ⟨h1, h2, h3, h4⟩ := refuse_zero hr
    rw [if_pos hr] at h ⊢
    by_cases hp : p < T.i
    · rw [if_pos hp] at h ⊢
      exact putAt_zero hi h
    · rw [if_neg hp] at h ⊢
      exact putAt_zero h1 h
  · rw [if_neg hr]
theorem put_len (T : Lg) (p t : Int) (l : List En) : (T.put p t l).1.L.length ≤ T.L.length + l.length := by
  have ha : ∀ q m, (T.putAt q m).1.L.length ≤ T.L.length + m.length := fun q m => by
    unfold Lg.putAt
    cases T.diff q m 0 with
    | none => simp
    | some k =>
      simp only [List.length_append, List.length_take, List.length_drop]
      omega
  unfold Lg.put
  split
  · split
    · have := ha T.i (l.drop (T.i - p).toNat)
      rw [List.length_drop] at this
      simp only
      omega
    · exact ha _ _
  · simp
end Go.Proofs.Ytlimjfnolidbmaa
