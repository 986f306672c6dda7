import GoSem.Core.Utf8
import Derived.Lib.RuneBytes
namespace Go.Proofs.YtebacdegjmcnlaaGreat.Nm.Pl
set_option linter.unusedVariables false
/-- a text's k-th byte, as a number -/
def g (l : List UInt8) (k : Nat) : Nat := ((l[k]?).map UInt8.toNat).getD 0
/-- is the k-th byte there, and one that goes on? -/
def ct (l : List UInt8) (k : Nat) : Bool := decide (k < l.length) && (decide (128 ≤ g l k) && decide (g l k ≤ 191))
def bad : Nat × Nat × Bool := (65533, 1, false)
/-- what stands at a text's beginning: its number, how many bytes, whether it is right -/
def rune (l : List UInt8) : Nat × Nat × Bool :=
  if g l 0 < 128 then (g l 0, 1, true)
  else if 194 ≤ g l 0 ∧ g l 0 ≤ 223 then
    if ct l 1 = true then ((g l 0 - 192) * 64 + (g l 1 - 128), 2, true) else bad
  else if 224 ≤ g l 0 ∧ g l 0 ≤ 239 then
    if ct l 1 = true ∧ ct l 2 = true then
      if ((g l 0 - 224) * 64 + (g l 1 - 128)) * 64 + (g l 2 - 128) < 2048 ∨ (55296 ≤ ((g l 0 - 224) * 64 + (g l 1 - 128)) * 64 + (g l 2 - 128) ∧ ((g l 0 - 224) * 64 + (g l 1 - 128)) * 64 + (g l 2 - 128) ≤ 57343) then bad
      else (((g l 0 - 224) * 64 + (g l 1 - 128)) * 64 + (g l 2 - 128), 3, true)
    else bad
  else if 240 ≤ g l 0 ∧ g l 0 ≤ 244 then
    if ct l 1 = true ∧ ct l 2 = true ∧ ct l 3 = true then
      if (((g l 0 - 240) * 64 + (g l 1 - 128)) * 64 + (g l 2 - 128)) * 64 + (g l 3 - 128) < 65536 ∨ 1114111 < (((g l 0 - 240) * 64 + (g l 1 - 128)) * 64 + (g l 2 - 128)) * 64 + (g l 3 - 128) then bad
      else ((((g l 0 - 240) * 64 + (g l 1 - 128)) * 64 + (g l 2 - 128)) * 64 + (g l 3 - 128), 4, true)
    else bad
  else bad
theorem g_le (l : List UInt8) (k : Nat) : g l k ≤ 255 := by
  unfold g
  cases l[k]? with
  | none => simp
  | some b => have := b.toNat_lt; simp; omega
theorem get_g (s : ByteArray) (i k : Nat) (h : i + k < s.size) : (s.get! (i + k)).toNat = g (s.data.toList.drop i) k := by
  unfold g
  have h' : i + k < s.data.size := h
  rw [List.getElem?_drop, Array.getElem?_toList, Array.getElem?_eq_getElem h']
  show (s.data[i + k]!).toNat = (s.data[i + k]).toNat
  rw [getElem!_pos s.data (i + k) h']
theorem cont_ct (s : ByteArray) (i k : Nat) : (decide (i + k < s.size) && (s.get! (i + k)).toNat / 64 == 2) = ct (s.data.toList.drop i) k := by
  unfold ct
  by_cases h : i + k < s.size
  · have h2 : k < (s.data.toList.drop i).length := by
      rw [List.length_drop]; have : s.data.toList.length = s.size := by rw [Array.length_toList]; rfl
      omega
    rw [get_g s i k h, decide_eq_true h, decide_eq_true h2]
    simp only [Bool.true_and]
    have := g_le (s.data.toList.drop i) k
    rw [Bool.eq_iff_iff]
    simp
    omega
  · have h2 : ¬ k < (s.data.toList.drop i).length := by
      rw [List.length_drop]; have : s.data.toList.length = s.size := by rw [Array.length_toList]; rfl
      omega
    rw [decide_eq_false h, decide_eq_false h2]
    rfl
theorem ct_g {l : List UInt8} {k : Nat} (h : ct l k = true) : 128 ≤ g l k ∧ g l k ≤ 191 := by
  unfold ct at h
  simp at h
  exact h.2
theorem valid_iff (c : Nat) : Utf8.valid (c : Int) = true ↔ c < 55296 ∨ (57344 ≤ c ∧ c ≤ 1114111) := by
  unfold Utf8.valid
  simp
  omega
/-- the model decodes as it is told above -/
theorem decode_rune (s : ByteArray) (i : Nat) (h : i < s.size) : Utf8.decode s i = ((rune (s.data.toList.drop i)).1, (rune (s.data.toList.drop i)).2.1) := by
  have e0 : (s.get! (i + 0)).toNat = g (s.data.toList.drop i) 0 := get_g s i 0 h
  have c1 := cont_ct s i 1
  have c2 := cont_ct s i 2
  have c3 := cont_ct s i 3
  have a1 : ct (s.data.toList.drop i) 1 = true → (s.get! (i + 1)).toNat = g (s.data.toList.drop i) 1 := fun hh => by
    rw [← c1] at hh; simp at hh; exact get_g s i 1 hh.1
  have a2 : ct (s.data.toList.drop i) 2 = true → (s.get! (i + 2)).toNat = g (s.data.toList.drop i) 2 := fun hh => by
    rw [← c2] at hh; simp at hh; exact get_g s i 2 hh.1
  have a3 : ct (s.data.toList.drop i) 3 = true → (s.get! (i + 3)).toNat = g (s.data.toList.drop i) 3 := fun hh => by
    rw [← c3] at hh; simp at hh; exact get_g s i 3 hh.1
  unfold Utf8.decode
  simp only [e0, c1, c2, c3]
  generalize s.data.toList.drop i = l at *
  have b0 := g_le l 0
  have n1 := @ct_g l 1
  have n2 := @ct_g l 2
  have n3 := @ct_g l 3
  unfold rune
  by_cases h0 : g l 0 < 128
  · simp only [h0, if_true]
  simp only [h0, if_false]
  generalize ct l 1 = B1 at *
  generalize ct l 2 = B2 at *
  generalize ct l 3 = B3 at *
  generalize g l 0 = x at *
  generalize g l 1 = y1 at *
  generalize g l 2 = y2 at *
  generalize g l 3 = y3 at *
  generalize (s.get! (i + 1)).toNat = z1 at *
  generalize (s.get! (i + 2)).toNat = z2 at *
  generalize (s.get! (i + 3)).toNat = z3 at *
  clear e0 c1 c2 c3
  unfold bad
  simp only [valid_iff, beq_iff_eq, decide_eq_true_eq, ge_iff_le, Bool.and_eq_true, Utf8.runeError]
  cases B1 <;> cases B2 <;> cases B3
  all_goals
    simp only [true_implies, Bool.false_eq_true, false_implies, and_true, and_false, if_false, and_self, if_true] at a1 a2 a3 n1 n2 n3 ⊢
    repeat' split
  all_goals
    first
      | (exfalso; omega)
      | (dsimp only; done)
      | (simp only [Prod.mk.injEq]; done)
      | (simp only [Prod.mk.injEq]; omega)
      | (dsimp only; simp only [Prod.mk.injEq]; done)
      | (dsimp only; simp only [Prod.mk.injEq, and_true]; omega)
theorem ct_len {l : List UInt8} {k : Nat} (h : ct l k = true) : k < l.length := by
  unfold ct at h
  simp at h
  exact h.1
/-- how wide, and how great -/
theorem rune_bd (l : List UInt8) (h : l ≠ []) : 1 ≤ (rune l).2.1 ∧ (rune l).2.1 ≤ 4 ∧ (rune l).2.1 ≤ l.length ∧ (rune l).1 ≤ 1114111 := by
  have hl : 1 ≤ l.length := by
    cases l with
    | nil => exact absurd rfl h
    | cons x r => simp
  have n1 := @ct_g l 1
  have n2 := @ct_g l 2
  have n3 := @ct_g l 3
  have m1 := @ct_len l 1
  have m2 := @ct_len l 2
  have m3 := @ct_len l 3
  unfold rune bad
  repeat' split
  all_goals
    dsimp only
  · omega
  · rename_i h1 h2 h3
    have := m1 h3
    have := n1 h3
    omega
  · omega
  · omega
  · rename_i h1 h2 h3 h4 h5
    have := m1 h4.1
    have := m2 h4.2
    have := n1 h4.1
    have := n2 h4.2
    omega
  · omega
  · omega
  · rename_i h1 h2 h3 h4 h5 h6
    have := m1 h5.1
    have := m2 h5.2.1
    have := m3 h5.2.2
    omega
  · omega
  · omega
/-- a text, rune by rune -/
def runes (l : List UInt8) : List (Nat × Nat × Bool) :=
  if h : l = [] then [] else rune l :: runes (l.drop (rune l).2.1)
termination_by l.length
decreasing_by
  have := rune_bd l h
  rw [List.length_drop]
  omega
theorem runes_nil : runes [] = [] := by rw [runes]; simp
theorem runes_cons {l : List UInt8} (h : l ≠ []) : runes l = rune l :: runes (l.drop (rune l).2.1) := by rw [runes, dif_neg h]
theorem runes_len (l : List UInt8) : (runes l).length ≤ l.length := by
  by_cases h : l = []
  · subst h; rw [runes_nil]; simp
  · rw [runes_cons h]
    have := rune_bd l h
    have ih := runes_len (l.drop (rune l).2.1)
    rw [List.length_drop] at ih
    simp only [List.length_cons]
    omega
termination_by l.length
decreasing_by
  rw [List.length_drop]
  have := rune_bd l h
  omega
end Go.Proofs.YtebacdegjmcnlaaGreat.Nm.Pl
namespace Go.Proofs.YtebacdegjmcnlaaGreat.Nm.Pl
set_option linter.unusedVariables false
theorem g_take {l : List UInt8} {m k : Nat} (h : k < m) : g (l.take m) k = g l k := by
  unfold g; rw [List.getElem?_take_of_lt h]
theorem ct_take {l : List UInt8} {m k : Nat} (h : k < m) : ct (l.take m) k = ct l k := by
  unfold ct; rw [g_take h, List.length_take]
  congr 1
  rw [Bool.eq_iff_iff]; simp; omega
theorem g_app {a b : List UInt8} {k : Nat} (h : k < a.length) : g (a ++ b) k = g a k := by
  unfold g; rw [List.getElem?_append_left h]
theorem ct_app {a b : List UInt8} {k : Nat} (h : ct a k = true) : ct (a ++ b) k = true := by
  have hl := ct_len h
  unfold ct at h ⊢
  rw [g_app hl, List.length_append]
  simp at h ⊢
  omega
/-- a right rune stays, whatever stands behind -/
theorem rune_ext {a : List UInt8} (b : List UInt8) (ha : a ≠ []) (h : (rune a).2.2 = true) : rune (a ++ b) = rune a := by
  have hl : 0 < a.length := List.length_pos_iff.2 ha
  have e0 := g_app (b := b) hl
  have n1 := @ct_app a b 1
  have n2 := @ct_app a b 2
  have n3 := @ct_app a b 3
  have m1 := @ct_len a 1
  have m2 := @ct_len a 2
  have m3 := @ct_len a 3
  have g1 : ct a 1 = true → g (a ++ b) 1 = g a 1 := fun hh => g_app (m1 hh)
  have g2 : ct a 2 = true → g (a ++ b) 2 = g a 2 := fun hh => g_app (m2 hh)
  have g3 : ct a 3 = true → g (a ++ b) 3 = g a 3 := fun hh => g_app (m3 hh)
  unfold rune at h ⊢
  rw [e0]
  split
  · rfl
  rename_i h0
  rw [if_neg h0] at h
  split
  · rename_i h1
    rw [if_pos h1] at h
    split at h
    · rename_i c1
      rw [if_pos (n1 c1), g1 c1, if_pos c1]
    · cases h
  · rename_i h1
    rw [if_neg h1] at h
    split
    · rename_i h2
      rw [if_pos h2] at h
      split at h
      · rename_i c
        rw [if_pos ⟨n1 c.1, n2 c.2⟩, g1 c.1, g2 c.2, if_pos c]
      · cases h
    · rename_i h2
      rw [if_neg h2] at h
      split
      · rename_i h3
        rw [if_pos h3] at h
        split at h
        · rename_i c
          rw [if_pos ⟨n1 c.1, n2 c.2.1, n3 c.2.2⟩, g1 c.1, g2 c.2.1, g3 c.2.2, if_pos c]
        · cases h
      · rfl
theorem rune_bad {l : List UInt8} (h : (rune l).2.2 = false) : rune l = bad := by
  revert h
  unfold rune
  repeat' split
  all_goals
    intro h
    first | (exact Bool.noConfusion h) | rfl
theorem rune_take {l : List UInt8} (hl : l ≠ []) {m : Nat} (h : (rune l).2.1 ≤ m) : rune (l.take m) = rune l := by
  have hbd := rune_bd l hl
  have hne : l.take m ≠ [] := by
    intro e
    rw [List.take_eq_nil_iff] at e
    rcases e with e | e
    · omega
    · exact hl e
  have hx := @rune_ext (l.take m) (l.drop m) hne
  rw [List.take_append_drop] at hx
  cases hr : (rune (l.take m)).2.2
  · cases hq : (rune l).2.2
    · rw [rune_bad hr, rune_bad hq]
    · exfalso
      have k0 : g (l.take m) 0 = g l 0 := g_take (by omega)
      have k1 : 1 < m → g (l.take m) 1 = g l 1 := fun h => g_take h
      have k2 : 2 < m → g (l.take m) 2 = g l 2 := fun h => g_take h
      have k3 : 3 < m → g (l.take m) 3 = g l 3 := fun h => g_take h
      have c1 : 1 < m → ct (l.take m) 1 = ct l 1 := fun h => ct_take h
      have c2 : 2 < m → ct (l.take m) 2 = ct l 2 := fun h => ct_take h
      have c3 : 3 < m → ct (l.take m) 3 = ct l 3 := fun h => ct_take h
      have key : rune (l.take m) = rune l := by
        clear hx
        unfold rune at h hq ⊢
        rw [k0]
        split
        · rfl
        rename_i h0
        rw [if_neg h0] at h hq
        split
        · rename_i h1
          rw [if_pos h1] at h hq
          split at h
          · rename_i c; have hm : 1 < m := h
            rw [c1 hm, k1 hm, if_pos c]
          · rename_i c; rw [if_neg c] at hq; cases hq
        · rename_i h1
          rw [if_neg h1] at h hq
          split
          · rename_i h2
            rw [if_pos h2] at h hq
            split at h
            · rename_i c
              rw [if_pos c] at hq
              split at h
              · rename_i d; rw [if_pos d] at hq; cases hq
              · rename_i d
                have hm : 2 < m := h
                rw [c1 (by omega), c2 hm, k1 (by omega), k2 hm, if_pos c]
            · rename_i c; rw [if_neg c] at hq; cases hq
          · rename_i h2
            rw [if_neg h2] at h hq
            split
            · rename_i h3
              rw [if_pos h3] at h hq
              split at h
              · rename_i c
                rw [if_pos c] at hq
                split at h
                · rename_i d; rw [if_pos d] at hq; cases hq
                · rename_i d
                  have hm : 3 < m := h
                  rw [c1 (by omega), c2 (by omega), c3 hm, k1 (by omega), k2 (by omega), k3 hm, if_pos c]
              · rename_i c; rw [if_neg c] at hq; cases hq
            · rename_i h3; rw [if_neg h3] at hq
      rw [key, hq] at hr
      cases hr
  · exact (hx hr).symm
/-- how many bytes the first runes have -/
def wd : List (Nat × Nat × Bool) → Nat
  | [] => 0
  | x :: r => x.2.1 + wd r
theorem wd_app (a b : List (Nat × Nat × Bool)) : wd (a ++ b) = wd a + wd b := by
  induction a with
  | nil => simp [wd]
  | cons x r ih => simp [wd, ih]; omega
theorem wd_all (l : List UInt8) : wd (runes l) = l.length := by
  by_cases h : l = []
  · subst h; rw [runes_nil]; rfl
  · rw [runes_cons h]
    have := rune_bd l h
    have ih := wd_all (l.drop (rune l).2.1)
    rw [List.length_drop] at ih
    simp only [wd]
    omega
termination_by l.length
decreasing_by
  rw [List.length_drop]
  have := rune_bd l h
  omega
/-- the first n runes' bytes -/
def cut (l : List UInt8) (n : Nat) : List UInt8 := l.take (wd ((runes l).take n))
theorem cut_zero (l : List UInt8) : cut l 0 = [] := by simp [cut, wd]
theorem cut_nil (n : Nat) : cut [] n = [] := by simp [cut]
theorem cut_succ {l : List UInt8} (h : l ≠ []) (n : Nat) : cut l (n + 1) = l.take (rune l).2.1 ++ cut (l.drop (rune l).2.1) n := by
  unfold cut
  rw [runes_cons h]
  simp only [List.take_succ_cons, wd]
  rw [List.take_add]
theorem runes_cut (l : List UInt8) (n : Nat) : runes (cut l n) = (runes l).take n := by
  induction n generalizing l with
  | zero => rw [cut_zero, runes_nil]; simp
  | succ n ih =>
    by_cases h : l = []
    · subst h; rw [cut_nil, runes_nil]; simp
    · have hbd := rune_bd l h
      have e : cut l (n + 1) = l.take (wd ((runes l).take (n + 1))) := rfl
      have hw : (rune l).2.1 ≤ wd ((runes l).take (n + 1)) := by
        rw [runes_cons h]; simp only [List.take_succ_cons, wd]; omega
      have hr : rune (cut l (n + 1)) = rune l := by rw [e]; exact rune_take h hw
      have hne : cut l (n + 1) ≠ [] := by
        rw [cut_succ h]
        intro e2
        have := congrArg List.length e2
        rw [List.length_append, List.length_take] at this
        simp only [List.length_nil] at this
        omega
      have hd : (cut l (n + 1)).drop (rune l).2.1 = cut (l.drop (rune l).2.1) n := by
        rw [cut_succ h, List.drop_append, List.length_take]
        rw [List.drop_eq_nil_of_le (by rw [List.length_take]; omega)]
        rw [Nat.min_eq_left hbd.2.2.1, Nat.sub_self]; simp
      rw [runes_cons hne, hr, hd, ih, runes_cons h, List.take_succ_cons]
theorem cut_all (l : List UInt8) {n : Nat} (h : (runes l).length ≤ n) : cut l n = l := by
  unfold cut
  rw [List.take_of_length_le h, wd_all, List.take_length]
theorem cut_cut (l : List UInt8) (n m : Nat) : cut (cut l n) m = cut l (min n m) := by
  have h : (wd ((runes l).take (min n m))) ≤ wd ((runes l).take n) := by
    rcases Nat.le_total n m with h | h
    · rw [Nat.min_eq_left h]; exact Nat.le_refl _
    · rw [Nat.min_eq_right h]
      obtain ⟨d, rfl⟩ : ∃ d, n = m + d := ⟨n - m, by omega⟩
      rw [List.take_add, wd_app]; omega
  show (cut l n).take (wd ((runes (cut l n)).take m)) = _
  rw [runes_cut, List.take_take, Nat.min_comm m n]
  show (l.take _).take _ = l.take _
  rw [List.take_take, Nat.min_eq_left h]
theorem cut_len (l : List UInt8) (n : Nat) : (cut l n).length = wd ((runes l).take n) := by
  unfold cut
  rw [List.length_take]
  apply Nat.min_eq_left
  rw [← wd_all l]
  have := wd_app ((runes l).take n) ((runes l).drop n)
  rw [List.take_append_drop] at this
  omega
end Go.Proofs.YtebacdegjmcnlaaGreat.Nm.Pl
namespace Go.Proofs.YtebacdegjmcnlaaGreat.Nm.Pl
set_option linter.unusedVariables false
/-! ### bytes of a right rune -/
theorem take_g {l : List UInt8} : ∀ {k : Nat}, k ≤ l.length → l.take k = (List.range k).map fun i => (g l i).toUInt8 := by
  intro k hk
  apply List.ext_getElem?
  intro i
  by_cases hi : i < k
  · rw [List.getElem?_take_of_lt hi, List.getElem?_map, List.getElem?_range hi]
    have hl : i < l.length := by omega
    simp [g, hl]
  · rw [List.getElem?_eq_none (by rw [List.length_take]; omega), List.getElem?_eq_none (by simp; omega)]
theorem take1 {l : List UInt8} (h : 1 ≤ l.length) : l.take 1 = [(g l 0).toUInt8] := by rw [take_g h]; rfl
theorem take2 {l : List UInt8} (h : 2 ≤ l.length) : l.take 2 = [(g l 0).toUInt8, (g l 1).toUInt8] := by rw [take_g h]; rfl
theorem take3 {l : List UInt8} (h : 3 ≤ l.length) : l.take 3 = [(g l 0).toUInt8, (g l 1).toUInt8, (g l 2).toUInt8] := by rw [take_g h]; rfl
theorem take4 {l : List UInt8} (h : 4 ≤ l.length) : l.take 4 = [(g l 0).toUInt8, (g l 1).toUInt8, (g l 2).toUInt8, (g l 3).toUInt8] := by rw [take_g h]; rfl
/-- the ways in which a rune is right -/
theorem right_ways {l : List UInt8} (h : (rune l).2.2 = true) :
    (g l 0 < 128 ∧ rune l = (g l 0, 1, true))
    ∨ (194 ≤ g l 0 ∧ g l 0 ≤ 223 ∧ ct l 1 = true ∧ rune l = ((g l 0 - 192) * 64 + (g l 1 - 128), 2, true))
    ∨ (224 ≤ g l 0 ∧ g l 0 ≤ 239 ∧ ct l 1 = true ∧ ct l 2 = true ∧ ¬ (((g l 0 - 224) * 64 + (g l 1 - 128)) * 64 + (g l 2 - 128) < 2048 ∨ (55296 ≤ ((g l 0 - 224) * 64 + (g l 1 - 128)) * 64 + (g l 2 - 128) ∧ ((g l 0 - 224) * 64 + (g l 1 - 128)) * 64 + (g l 2 - 128) ≤ 57343)) ∧ rune l = (((g l 0 - 224) * 64 + (g l 1 - 128)) * 64 + (g l 2 - 128), 3, true))
    ∨ (240 ≤ g l 0 ∧ g l 0 ≤ 244 ∧ ct l 1 = true ∧ ct l 2 = true ∧ ct l 3 = true ∧ ¬ ((((g l 0 - 240) * 64 + (g l 1 - 128)) * 64 + (g l 2 - 128)) * 64 + (g l 3 - 128) < 65536 ∨ 1114111 < (((g l 0 - 240) * 64 + (g l 1 - 128)) * 64 + (g l 2 - 128)) * 64 + (g l 3 - 128)) ∧ rune l = ((((g l 0 - 240) * 64 + (g l 1 - 128)) * 64 + (g l 2 - 128)) * 64 + (g l 3 - 128), 4, true)) := by
  revert h
  unfold rune
  by_cases h0 : g l 0 < 128
  · rw [if_pos h0]; intro _; exact .inl ⟨h0, rfl⟩
  rw [if_neg h0]
  by_cases h1 : 194 ≤ g l 0 ∧ g l 0 ≤ 223
  · rw [if_pos h1]
    by_cases c : ct l 1 = true
    · rw [if_pos c]; intro _; exact .inr (.inl ⟨h1.1, h1.2, c, rfl⟩)
    · rw [if_neg c]; intro h; exact Bool.noConfusion h
  rw [if_neg h1]
  by_cases h2 : 224 ≤ g l 0 ∧ g l 0 ≤ 239
  · rw [if_pos h2]
    by_cases c : ct l 1 = true ∧ ct l 2 = true
    · rw [if_pos c]
      split
      · intro h; exact Bool.noConfusion h
      · rename_i d; intro _; exact .inr (.inr (.inl ⟨h2.1, h2.2, c.1, c.2, d, rfl⟩))
    · rw [if_neg c]; intro h; exact Bool.noConfusion h
  rw [if_neg h2]
  by_cases h3 : 240 ≤ g l 0 ∧ g l 0 ≤ 244
  · rw [if_pos h3]
    by_cases c : ct l 1 = true ∧ ct l 2 = true ∧ ct l 3 = true
    · rw [if_pos c]
      split
      · intro h; exact Bool.noConfusion h
      · rename_i d; intro _; exact .inr (.inr (.inr ⟨h3.1, h3.2, c.1, c.2.1, c.2.2, d, rfl⟩))
    · rw [if_neg c]; intro h; exact Bool.noConfusion h
  · rw [if_neg h3]; intro h; exact Bool.noConfusion h
theorem toU (x : Int) (n : Nat) (h : x = (n : Int)) : x.toNat.toUInt8 = n.toUInt8 := by subst h; rfl
/-- a right rune's bytes are its number's -/
theorem enc {l : List UInt8} (hl : l ≠ []) (h : (rune l).2.2 = true) : Lib.encodeRune ((rune l).1 : Int) = l.take (rune l).2.1 := by
  have hbd := rune_bd l hl
  have n1 := @ct_g l 1
  have n2 := @ct_g l 2
  have n3 := @ct_g l 3
  rcases right_ways h with ⟨h0, e⟩ | ⟨h0, h1, c1, e⟩ | ⟨h0, h1, c1, c2, d, e⟩ | ⟨h0, h1, c1, c2, c3, d, e⟩
  · rw [e] at hbd ⊢
    dsimp only at hbd ⊢
    rw [take1 hbd.2.2.1]
    unfold Lib.encodeRune
    rw [Lib.encodeRuneZ_one (by omega) (by omega)]
    simp only [List.map_cons, List.map_nil]
    rw [toU _ _ rfl]
  · have := n1 c1
    rw [e] at hbd ⊢
    dsimp only at hbd ⊢
    rw [take2 hbd.2.2.1]
    unfold Lib.encodeRune
    rw [Lib.encodeRuneZ_two (by omega) (by omega)]
    simp only [List.map_cons, List.map_nil]
    rw [toU _ (g l 0) (by omega), toU _ (g l 1) (by omega)]
  · have := n1 c1
    have := n2 c2
    rw [e] at hbd ⊢
    dsimp only at hbd ⊢
    rw [take3 hbd.2.2.1]
    unfold Lib.encodeRune
    rw [Lib.encodeRuneZ_three (by omega)]
    simp only [List.map_cons, List.map_nil]
    rw [toU _ (g l 0) (by omega), toU _ (g l 1) (by omega), toU _ (g l 2) (by omega)]
  · have := n1 c1
    have := n2 c2
    have := n3 c3
    rw [e] at hbd ⊢
    dsimp only at hbd ⊢
    rw [take4 hbd.2.2.1]
    unfold Lib.encodeRune
    rw [Lib.encodeRuneZ_four (by omega) (by omega)]
    simp only [List.map_cons, List.map_nil]
    rw [toU _ (g l 0) (by omega), toU _ (g l 1) (by omega), toU _ (g l 2) (by omega), toU _ (g l 3) (by omega)]
/-- what is decoded as U+FFFD is wrong, but for its own three bytes -/
theorem fffd {l : List UInt8} (hl : l ≠ []) (h : (rune l).1 = 65533) : (rune l).2.2 = [239, 191, 189].isPrefixOf l := by
  cases hr : (rune l).2.2
  · symm
    rw [Bool.eq_false_iff]
    intro hp
    rw [List.isPrefixOf_iff_prefix] at hp
    obtain ⟨t, rfl⟩ := hp
    have e : rune ([239, 191, 189] ++ t) = rune [239, 191, 189] := rune_ext t (by simp) (by decide)
    rw [e] at hr
    revert hr
    decide
  · symm
    rw [List.isPrefixOf_iff_prefix]
    have e := enc hl hr
    rw [h] at e
    have e2 : Lib.encodeRune ((65533 : Nat) : Int) = [239, 191, 189] := by decide
    rw [e2] at e
    rw [e]
    exact List.take_prefix _ _
/-! ### two texts, one behind the other; right texts -/
def okay (l : List UInt8) : Bool := (runes l).all fun r => r.2.2
def nums (l : List UInt8) : List Nat := (runes l).map fun r => r.1
theorem okay_nil : okay [] = true := by simp [okay, runes_nil]
theorem okay_cons {l : List UInt8} (h : l ≠ []) : okay l = ((rune l).2.2 && okay (l.drop (rune l).2.1)) := by unfold okay; rw [runes_cons h, List.all_cons]
theorem nums_nil : nums [] = [] := by simp [nums, runes_nil]
theorem nums_cons {l : List UInt8} (h : l ≠ []) : nums l = (rune l).1 :: nums (l.drop (rune l).2.1) := by unfold nums; rw [runes_cons h, List.map_cons]
theorem runes_app (a b : List UInt8) (h : okay a = true) : runes (a ++ b) = runes a ++ runes b := by
  by_cases ha : a = []
  · subst ha; rw [runes_nil]; simp
  · rw [okay_cons ha, Bool.and_eq_true] at h
    have hbd := rune_bd a ha
    have e := rune_ext b ha h.1
    have hne : a ++ b ≠ [] := by simp [ha]
    rw [runes_cons hne, runes_cons ha, e, List.drop_append, show (rune a).2.1 - a.length = 0 by omega, List.drop_zero,
      runes_app (a.drop (rune a).2.1) b h.2, List.cons_append]
termination_by a.length
decreasing_by
  rw [List.length_drop]
  omega
theorem okay_app {a : List UInt8} (b : List UInt8) (h : okay a = true) : okay (a ++ b) = okay b := by
  unfold okay at h ⊢
  rw [runes_app a b h, List.all_append, h, Bool.true_and]
theorem nums_app {a : List UInt8} (b : List UInt8) (h : okay a = true) : nums (a ++ b) = nums a ++ nums b := by
  unfold nums
  rw [runes_app a b h, List.map_append]
theorem cut_app (a b : List UInt8) (h : okay a = true) : cut (a ++ b) (runes a).length = a := by
  unfold cut
  rw [runes_app a b h, List.take_append_of_le_length (Nat.le_refl _), List.take_length, wd_all, List.take_left]
/-- right texts of the same numbers are the same -/
theorem nums_inj (a b : List UInt8) (ha : okay a = true) (hb : okay b = true) (h : nums a = nums b) : a = b := by
  by_cases ea : a = []
  · subst ea
    by_cases eb : b = []
    · exact eb.symm
    · rw [nums_nil, nums_cons eb] at h; cases h
  · by_cases eb : b = []
    · subst eb; rw [nums_nil, nums_cons ea] at h; cases h
    · rw [okay_cons ea, Bool.and_eq_true] at ha
      rw [okay_cons eb, Bool.and_eq_true] at hb
      rw [nums_cons ea, nums_cons eb] at h
      injection h with h1 h2
      have hbd := rune_bd a ea
      have e1 := enc ea ha.1
      have e2 := enc eb hb.1
      rw [h1] at e1
      have e3 := e1.symm.trans e2
      have e4 := nums_inj (a.drop (rune a).2.1) (b.drop (rune b).2.1) ha.2 hb.2 h2
      rw [← List.take_append_drop (rune a).2.1 a, e3, e4, List.take_append_drop]
termination_by a.length
decreasing_by
  rw [List.length_drop]
  omega
/-! ### an order -/
def lt : List Nat → List Nat → Bool
  | [], [] => false
  | [], _ :: _ => true
  | _ :: _, [] => false
  | x :: a, y :: b => if x = y then lt a b else decide (x < y)
theorem lt_self (a : List Nat) : lt a a = false := by
  induction a with
  | nil => rfl
  | cons x r ih => simp [lt, ih]
theorem lt_asymm (a b : List Nat) : (lt a b && lt b a) = false := by
  induction a generalizing b with
  | nil => cases b <;> rfl
  | cons x r ih =>
    cases b with
    | nil => rfl
    | cons y s =>
      simp only [lt]
      by_cases h : x = y
      · subst h; simpa using ih s
      · rw [if_neg h, if_neg (fun e => h e.symm)]
        simp only [Bool.and_eq_false_iff, decide_eq_false_iff_not]
        omega
theorem lt_trans (a b c : List Nat) (h : lt a b = true) (k : lt b c = true) : lt a c = true := by
  induction a generalizing b c with
  | nil =>
    cases b with
    | nil => cases h
    | cons y s =>
      cases c with
      | nil => cases k
      | cons z t => rfl
  | cons x r ih =>
    cases b with
    | nil => cases h
    | cons y s =>
      cases c with
      | nil => cases k
      | cons z t =>
        simp only [lt] at h k ⊢
        by_cases e1 : x = y
        · subst e1
          rw [if_pos rfl] at h
          by_cases e2 : x = z
          · subst e2
            rw [if_pos rfl] at k ⊢
            exact ih s t h k
          · rw [if_neg e2] at k ⊢; exact k
        · rw [if_neg e1, decide_eq_true_eq] at h
          by_cases e2 : y = z
          · subst e2; rw [if_neg e1, decide_eq_true_eq]; exact h
          · rw [if_neg e2, decide_eq_true_eq] at k
            rw [if_neg (by omega), decide_eq_true_eq]; omega
theorem lt_total (a b : List Nat) (h : lt a b = false) (k : lt b a = false) : a = b := by
  induction a generalizing b with
  | nil => cases b with
    | nil => rfl
    | cons y s => cases h
  | cons x r ih =>
    cases b with
    | nil => cases k
    | cons y s =>
      simp only [lt] at h k
      by_cases e : x = y
      · subst e
        rw [if_pos rfl] at h k
        rw [ih s h k]
      · rw [if_neg e, decide_eq_false_iff_not] at h
        rw [if_neg (fun q => e q.symm), decide_eq_false_iff_not] at k
        omega
theorem lt_app_left (a b : List Nat) : lt (a ++ b) a = false := by
  induction a with
  | nil => cases b <;> rfl
  | cons x r ih => simp [lt, ih]
theorem lt_app (a b : List Nat) : lt a (a ++ b) = !b.isEmpty := by
  induction a with
  | nil => cases b <;> rfl
  | cons x r ih => simp [lt, ih]
/-- is one text less than another? -/
def less (a b : List UInt8) : Bool := lt (nums a) (nums b)
theorem nums_ne {l : List UInt8} (h : l ≠ []) : (nums l).isEmpty = false := by rw [nums_cons h]; rfl
end Go.Proofs.YtebacdegjmcnlaaGreat.Nm.Pl
