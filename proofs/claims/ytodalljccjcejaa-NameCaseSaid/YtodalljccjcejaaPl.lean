import GoSem.Core.Utf8
namespace Go.Proofs.Ytodalljccjcejaa.Pl
set_option linter.unusedVariables false
/-- a text's k-th byte, as a number -/
def g (l : List UInt8) (k : Nat) : Nat := ((l[k]?).map UInt8.toNat).getD 0
/-- is the k-th byte there, and one that goes on? -/
def ct (l : List UInt8) (k : Nat) : Bool := decide (k < l.length) && (decide (128 ≤ g l k) && decide (g l k ≤ 191))
def bad : Nat × Nat × Bool := (65533, 1, false)
/-- what stands at a text's beginning: its number, how many bytes, whether it is right -/
def rune (l : List UInt8) : Nat × Nat × Bool :=
  if g l 0 < 128 then (g l 0, 1, true)
  else if 194 ≤ g l 0 ∧ g l 0 ≤ 223 then
    if ct l 1 = true then ((g l 0 - 192) * 64 + (g l 1 - 128), 2, true) else bad
  else if 224 ≤ g l 0 ∧ g l 0 ≤ 239 then
    if ct l 1 = true ∧ ct l 2 = true then
      if ((g l 0 - 224) * 64 + (g l 1 - 128)) * 64 + (g l 2 - 128) < 2048 ∨ (55296 ≤ ((g l 0 - 224) * 64 + (g l 1 - 128)) * 64 + (g l 2 - 128) ∧ ((g l 0 - 224) * 64 + (g l 1 - 128)) * 64 + (g l 2 - 128) ≤ 57343) then bad
      else (((g l 0 - 224) * 64 + (g l 1 - 128)) * 64 + (g l 2 - 128), 3, true)
    else bad
  else if 240 ≤ g l 0 ∧ g l 0 ≤ 244 then
    if ct l 1 = true ∧ ct l 2 = true ∧ ct l 3 = true then
      if (((g l 0 - 240) * 64 + (g l 1 - 128)) * 64 + (g l 2 - 128)) * 64 + (g l 3 - 128) < 65536 ∨ 1114111 < (((g l 0 - 240) * 64 + (g l 1 - 128)) * 64 + (g l 2 - 128)) * 64 + (g l 3 - 128) then bad
      else ((((g l 0 - 240) * 64 + (g l 1 - 128)) * 64 + (g l 2 - 128)) * 64 + (g l 3 - 128), 4, true)
    else bad
  else bad
theorem g_le (l : List UInt8) (k : Nat) : g l k ≤ 255 := by
  unfold g
  cases l[k]? with
  | none => simp
  | some b => have := b.toNat_lt; simp; omega
theorem get_g (s : ByteArray) (i k : Nat) (h : i + k < s.size) : (s.get! (i + k)).toNat = g (s.data.toList.drop i) k := by
  unfold g
  have h' : i + k < s.data.size := h
  rw [List.getElem?_drop, Array.getElem?_toList, Array.getElem?_eq_getElem h']
  show (s.data[i + k]!).toNat = (s.data[i + k]).toNat
  rw [getElem!_pos s.data (i + k) h']
theorem cont_ct (s : ByteArray) (i k : Nat) : (decide (i + k < s.size) && (s.get! (i + k)).toNat / 64 == 2) = ct (s.data.toList.drop i) k := by
  unfold ct
  by_cases h : i + k < s.size
  · have h2 : k < (s.data.toList.drop i).length := by
      rw [List.length_drop]; have : s.data.toList.length = s.size := by rw [Array.length_toList]; rfl
      omega
    rw [get_g s i k h, decide_eq_true h, decide_eq_true h2]
    simp only [Bool.true_and]
    have := g_le (s.data.toList.drop i) k
    rw [Bool.eq_iff_iff]
    simp
    omega
  · have h2 : ¬ k < (s.data.toList.drop i).length := by
      rw [List.length_drop]; have : s.data.toList.length = s.size := by rw [Array.length_toList]; rfl
      omega
    rw [decide_eq_false h, decide_eq_false h2]
    rfl
theorem ct_g {l : List UInt8} {k : Nat} (h : ct l k = true) : 128 ≤ g l k ∧ g l k ≤ 191 := by
  unfold ct at h
  simp at h
  exact h.2
theorem valid_iff (c : Nat) : Utf8.valid (c : Int) = true ↔ c < 55296 ∨ (57344 ≤ c ∧ c ≤ 1114111) := by
  unfold Utf8.valid
  simp
  omega
/-- the model decodes as it is told above -/
theorem decode_rune (s : ByteArray) (i : Nat) (h : i < s.size) : Utf8.decode s i = ((rune (s.data.toList.drop i)).1, (rune (s.data.toList.drop i)).2.1) := by
  have e0 : (s.get! (i + 0)).toNat = g (s.data.toList.drop i) 0 := get_g s i 0 h
  have c1 := cont_ct s i 1
  have c2 := cont_ct s i 2
  have c3 := cont_ct s i 3
  have a1 : ct (s.data.toList.drop i) 1 = true → (s.get! (i + 1)).toNat = g (s.data.toList.drop i) 1 := fun hh => by
    rw [← c1] at hh; simp at hh; exact get_g s i 1 hh.1
  have a2 : ct (s.data.toList.drop i) 2 = true → (s.get! (i + 2)).toNat = g (s.data.toList.drop i) 2 := fun hh => by
    rw [← c2] at hh; simp at hh; exact get_g s i 2 hh.1
  have a3 : ct (s.data.toList.drop i) 3 = true → (s.get! (i + 3)).toNat = g (s.data.toList.drop i) 3 := fun hh => by
    rw [← c3] at hh; simp at hh; exact get_g s i 3 hh.1
  unfold Utf8.decode
  simp only [e0, c1, c2, c3]
  generalize s.data.toList.drop i = l at *
  have b0 := g_le l 0
  have n1 := @ct_g l 1
  have n2 := @ct_g l 2
  have n3 := @ct_g l 3
  unfold rune
  by_cases h0 : g l 0 < 128
  · simp only [h0, if_true]
  simp only [h0, if_false]
  generalize ct l 1 = B1 at *
  generalize ct l 2 = B2 at *
  generalize ct l 3 = B3 at *
  generalize g l 0 = x at *
  generalize g l 1 = y1 at *
  generalize g l 2 = y2 at *
  generalize g l 3 = y3 at *
  generalize (s.get! (i + 1)).toNat = z1 at *
  generalize (s.get! (i + 2)).toNat = z2 at *
  generalize (s.get! (i + 3)).toNat = z3 at *
  clear e0 c1 c2 c3
  unfold bad
  simp only [valid_iff, beq_iff_eq, decide_eq_true_eq, ge_iff_le, Bool.and_eq_true, Utf8.runeError]
  cases B1 <;> cases B2 <;> cases B3
  all_goals
    simp only [true_implies, Bool.false_eq_true, false_implies, and_true, and_false, if_false, and_self, if_true] at a1 a2 a3 n1 n2 n3 ⊢
    repeat' split
  all_goals
    first
      | (exfalso; omega)
      | (dsimp only; done)
      | (simp only [Prod.mk.injEq]; done)
      | (simp only [Prod.mk.injEq]; omega)
      | (dsimp only; simp only [Prod.mk.injEq]; done)
      | (dsimp only; simp only [Prod.mk.injEq, and_true]; omega)
theorem ct_len {l : List UInt8} {k : Nat} (h : ct l k = true) : k < l.length := by
  unfold ct at h
  simp at h
  exact h.1
/-- how wide, and how great -/
theorem rune_bd (l : List UInt8) (h : l ≠ []) : 1 ≤ (rune l).2.1 ∧ (rune l).2.1 ≤ 4 ∧ (rune l).2.1 ≤ l.length ∧ (rune l).1 ≤ 1114111 := by
  have hl : 1 ≤ l.length := by
    cases l with
    | nil => exact absurd rfl h
    | cons x r => simp
  have n1 := @ct_g l 1
  have n2 := @ct_g l 2
  have n3 := @ct_g l 3
  have m1 := @ct_len l 1
  have m2 := @ct_len l 2
  have m3 := @ct_len l 3
  unfold rune bad
  repeat' split
  all_goals
    dsimp only
  · omega
  · rename_i h1 h2 h3
    have := m1 h3
    have := n1 h3
    omega
  · omega
  · omega
  · rename_i h1 h2 h3 h4 h5
    have := m1 h4.1
    have := m2 h4.2
    have := n1 h4.1
    have := n2 h4.2
    omega
  · omega
  · omega
  · rename_i h1 h2 h3 h4 h5 h6
    have := m1 h5.1
    have := m2 h5.2.1
    have := m3 h5.2.2
    omega
  · omega
  · omega
/-- a text, rune by rune -/
def runes (l : List UInt8) : List (Nat × Nat × Bool) :=
  if h : l = [] then [] else rune l :: runes (l.drop (rune l).2.1)
termination_by l.length
decreasing_by
  have := rune_bd l h
  rw [List.length_drop]
  omega
theorem runes_nil : runes [] = [] := by rw [runes]; simp
theorem runes_cons {l : List UInt8} (h : l ≠ []) : runes l = rune l :: runes (l.drop (rune l).2.1) := by rw [runes, dif_neg h]
theorem runes_len (l : List UInt8) : (runes l).length ≤ l.length := by
  by_cases h : l = []
  · subst h; rw [runes_nil]; simp
  · rw [runes_cons h]
    have := rune_bd l h
    have ih := runes_len (l.drop (rune l).2.1)
    rw [List.length_drop] at ih
    simp only [List.length_cons]
    omega
termination_by l.length
decreasing_by
  rw [List.length_drop]
  have := rune_bd l h
  omega
end Go.Proofs.Ytodalljccjcejaa.Pl
