import Derived.Test.YtodalljccjcejaaPl
namespace Go.Proofs.Ytodalljccjcejaa.Pl
set_option linter.unusedVariables false

theorem g_take {l : List UInt8} {m k : Nat} (h : k < m) : g (l.take m) k = g l k := by
  unfold g; rw [List.getElem?_take_of_lt h]
theorem ct_take {l : List UInt8} {m k : Nat} (h : k < m) : ct (l.take m) k = ct l k := by
  unfold ct; rw [g_take h, List.length_take]
  congr 1
  rw [Bool.eq_iff_iff]; simp; omega
theorem g_app {a b : List UInt8} {k : Nat} (h : k < a.length) : g (a ++ b) k = g a k := by
  unfold g; rw [List.getElem?_append_left h]
theorem ct_app {a b : List UInt8} {k : Nat} (h : ct a k = true) : ct (a ++ b) k = true := by
  have hl := ct_len h
  unfold ct at h ⊢
  rw [g_app hl, List.length_append]
  simp at h ⊢
  omega
/-- a right rune stays, whatever stands behind -/
theorem rune_ext {a : List UInt8} (b : List UInt8) (ha : a ≠ []) (h : (rune a).2.2 = true) : rune (a ++ b) = rune a := by
  have hl : 0 < a.length := List.length_pos_iff.2 ha
  have e0 := g_app (b := b) hl
  have n1 := @ct_app a b 1
  have n2 := @ct_app a b 2
  have n3 := @ct_app a b 3
  have m1 := @ct_len a 1
  have m2 := @ct_len a 2
  have m3 := @ct_len a 3
  have g1 : ct a 1 = true → g (a ++ b) 1 = g a 1 := fun hh => g_app (m1 hh)
  have g2 : ct a 2 = true → g (a ++ b) 2 = g a 2 := fun hh => g_app (m2 hh)
  have g3 : ct a 3 = true → g (a ++ b) 3 = g a 3 := fun hh => g_app (m3 hh)
  unfold rune at h ⊢
  rw [e0]
  split
  · rfl
  rename_i h0
  rw [if_neg h0] at h
  split
  · rename_i h1
    rw [if_pos h1] at h
    split at h
    · rename_i c1
      rw [if_pos (n1 c1), g1 c1, if_pos c1]
    · cases h
  · rename_i h1
    rw [if_neg h1] at h
    split
    · rename_i h2
      rw [if_pos h2] at h
      split at h
      · rename_i c
        rw [if_pos ⟨n1 c.1, n2 c.2⟩, g1 c.1, g2 c.2, if_pos c]
      · cases h
    · rename_i h2
      rw [if_neg h2] at h
      split
      · rename_i h3
        rw [if_pos h3] at h
        split at h
        · rename_i c
          rw [if_pos ⟨n1 c.1, n2 c.2.1, n3 c.2.2⟩, g1 c.1, g2 c.2.1, g3 c.2.2, if_pos c]
        · cases h
      · rfl
theorem rune_bad {l : List UInt8} (h : (rune l).2.2 = false) : rune l = bad := by
  revert h
  unfold rune
  repeat' split
  all_goals
    intro h
    first | (exact Bool.noConfusion h) | rfl
theorem rune_take {l : List UInt8} (hl : l ≠ []) {m : Nat} (h : (rune l).2.1 ≤ m) : rune (l.take m) = rune l := by
  have hbd := rune_bd l hl
  have hne : l.take m ≠ [] := by
    intro e
    rw [List.take_eq_nil_iff] at e
    rcases e with e | e
    · omega
    · exact hl e
  have hx := @rune_ext (l.take m) (l.drop m) hne
  rw [List.take_append_drop] at hx
  cases hr : (rune (l.take m)).2.2
  · cases hq : (rune l).2.2
    · rw [rune_bad hr, rune_bad hq]
    · exfalso
      have k0 : g (l.take m) 0 = g l 0 := g_take (by omega)
      have k1 : 1 < m → g (l.take m) 1 = g l 1 := fun h => g_take h
      have k2 : 2 < m → g (l.take m) 2 = g l 2 := fun h => g_take h
      have k3 : 3 < m → g (l.take m) 3 = g l 3 := fun h => g_take h
      have c1 : 1 < m → ct (l.take m) 1 = ct l 1 := fun h => ct_take h
      have c2 : 2 < m → ct (l.take m) 2 = ct l 2 := fun h => ct_take h
      have c3 : 3 < m → ct (l.take m) 3 = ct l 3 := fun h => ct_take h
      have key : rune (l.take m) = rune l := by
        clear hx
        unfold rune at h hq ⊢
        rw [k0]
        split
        · rfl
        rename_i h0
        rw [if_neg h0] at h hq
        split
        · rename_i h1
          rw [if_pos h1] at h hq
          split at h
          · rename_i c; have hm : 1 < m := h
            rw [c1 hm, k1 hm, if_pos c]
          · rename_i c; rw [if_neg c] at hq; cases hq
        · rename_i h1
          rw [if_neg h1] at h hq
          split
          · rename_i h2
            rw [if_pos h2] at h hq
            split at h
            · rename_i c
              rw [if_pos c] at hq
              split at h
              · rename_i d; rw [if_pos d] at hq; cases hq
              · rename_i d
                have hm : 2 < m := h
                rw [c1 (by omega), c2 hm, k1 (by omega), k2 hm, if_pos c]
            · rename_i c; rw [if_neg c] at hq; cases hq
          · rename_i h2
            rw [if_neg h2] at h hq
            split
            · rename_i h3
              rw [if_pos h3] at h hq
              split at h
              · rename_i c
                rw [if_pos c] at hq
                split at h
                · rename_i d; rw [if_pos d] at hq; cases hq
                · rename_i d
                  have hm : 3 < m := h
                  rw [c1 (by omega), c2 (by omega), c3 hm, k1 (by omega), k2 (by omega), k3 hm, if_pos c]
              · rename_i c; rw [if_neg c] at hq; cases hq
            · rename_i h3; rw [if_neg h3] at hq
      rw [key, hq] at hr
      cases hr
  · exact (hx hr).symm

/-- how many bytes the first runes have -/
def wd : List (Nat × Nat × Bool) → Nat
  | [] => 0
  | x :: r => x.2.1 + wd r
theorem wd_app (a b : List (Nat × Nat × Bool)) : wd (a ++ b) = wd a + wd b := by
  induction a with
  | nil => simp [wd]
  | cons x r ih => simp [wd, ih]; omega
theorem wd_all (l : List UInt8) : wd (runes l) = l.length := by
  by_cases h : l = []
  · subst h; rw [runes_nil]; rfl
  · rw [runes_cons h]
    have := rune_bd l h
    have ih := wd_all (l.drop (rune l).2.1)
    rw [List.length_drop] at ih
    simp only [wd]
    omega
termination_by l.length
decreasing_by
  rw [List.length_drop]
  have := rune_bd l h
  omega
/-- the first n runes' bytes -/
def cut (l : List UInt8) (n : Nat) : List UInt8 := l.take (wd ((runes l).take n))
theorem cut_zero (l : List UInt8) : cut l 0 = [] := by simp [cut, wd]
theorem cut_nil (n : Nat) : cut [] n = [] := by simp [cut]
theorem cut_succ {l : List UInt8} (h : l ≠ []) (n : Nat) : cut l (n + 1) = l.take (rune l).2.1 ++ cut (l.drop (rune l).2.1) n := by
  unfold cut
  rw [runes_cons h]
  simp only [List.take_succ_cons, wd]
  rw [List.take_add]
theorem runes_cut (l : List UInt8) (n : Nat) : runes (cut l n) = (runes l).take n := by
  induction n generalizing l with
  | zero => rw [cut_zero, runes_nil]; simp
  | succ n ih =>
    by_cases h : l = []
    · subst h; rw [cut_nil, runes_nil]; simp
    · have hbd := rune_bd l h
      have e : cut l (n + 1) = l.take (wd ((runes l).take (n + 1))) := rfl
      have hw : (rune l).2.1 ≤ wd ((runes l).take (n + 1)) := by
        rw [runes_cons h]; simp only [List.take_succ_cons, wd]; omega
      have hr : rune (cut l (n + 1)) = rune l := by rw [e]; exact rune_take h hw
      have hne : cut l (n + 1) ≠ [] := by
        rw [cut_succ h]
        intro e2
        have := congrArg List.length e2
        rw [List.length_append, List.length_take] at this
        simp only [List.length_nil] at this
        omega
      have hd : (cut l (n + 1)).drop (rune l).2.1 = cut (l.drop (rune l).2.1) n := by
        rw [cut_succ h, List.drop_append, List.length_take]
        rw [List.drop_eq_nil_of_le (by rw [List.length_take]; omega)]
        rw [Nat.min_eq_left hbd.2.2.1, Nat.sub_self]; simp
      rw [runes_cons hne, hr, hd, ih, runes_cons h, List.take_succ_cons]
theorem cut_all (l : List UInt8) {n : Nat} (h : (runes l).length ≤ n) : cut l n = l := by
  unfold cut
  rw [List.take_of_length_le h, wd_all, List.take_length]
theorem cut_cut (l : List UInt8) (n m : Nat) : cut (cut l n) m = cut l (min n m) := by
  have h : (wd ((runes l).take (min n m))) ≤ wd ((runes l).take n) := by
    rcases Nat.le_total n m with h | h
    · rw [Nat.min_eq_left h]; exact Nat.le_refl _
    · rw [Nat.min_eq_right h]
      obtain ⟨d, rfl⟩ : ∃ d, n = m + d := ⟨n - m, by omega⟩
      rw [List.take_add, wd_app]; omega
  show (cut l n).take (wd ((runes (cut l n)).take m)) = _
  rw [runes_cut, List.take_take, Nat.min_comm m n]
  show (l.take _).take _ = l.take _
  rw [List.take_take, Nat.min_eq_left h]
theorem cut_len (l : List UInt8) (n : Nat) : (cut l n).length = wd ((runes l).take n) := by
  unfold cut
  rw [List.length_take]
  apply Nat.min_eq_left
  rw [← wd_all l]
  have := wd_app ((runes l).take n) ((runes l).drop n)
  rw [List.take_append_drop] at this
  omega
end Go.Proofs.Ytodalljccjcejaa.Pl
