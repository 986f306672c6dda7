import GoSem.Core.Utf8
import Derived.Lib.RuneBytes
import Derived.Test.YtphclpjekpdifaaGreatRows
import Derived.WalkKit
import Derived.ProofKit
import Derived.WalkLawsBesides
import Derived.Outline
import Derived.Deep.QuietTactic
import Derived.BigQuiet
import Derived.Lib.Hide
import Derived.LoopTactic
import Derived.Laws.RangeAny
import Derived.Laws.RangeString
import Derived.Lib.Strings
import Derived.Lib.OthersKept
namespace Go.Proofs.YtphclpjekpdifaaGreat.Nm.Pl
set_option linter.unusedVariables false
def g (l : List UInt8) (k : Nat) : Nat := ((l[k]?).map UInt8.toNat).getD 0
def ct (l : List UInt8) (k : Nat) : Bool := decide (k < l.length) && (decide (128 ≤ g l k) && decide (g l k ≤ 191))
def bad : Nat × Nat × Bool := (65533, 1, false)
def rune (l : List UInt8) : Nat × Nat × Bool :=
  if g l 0 < 128 then (g l 0, 1, true)
  else if 194 ≤ g l 0 ∧ g l 0 ≤ 223 then
    if ct l 1 = true then ((g l 0 - 192) * 64 + (g l 1 - 128), 2, true) else bad
  else if 224 ≤ g l 0 ∧ g l 0 ≤ 239 then
    if ct l 1 = true ∧ ct l 2 = true then
      if ((g l 0 - 224) * 64 + (g l 1 - 128)) * 64 + (g l 2 - 128) < 2048 ∨ (55296 ≤ ((g l 0 - 224) * 64 + (g l 1 - 128)) * 64 + (g l 2 - 128) ∧ ((g l 0 - 224) * 64 + (g l 1 - 128)) * 64 + (g l 2 - 128) ≤ 57343) then bad
      else (((g l 0 - 224) * 64 + (g l 1 - 128)) * 64 + (g l 2 - 128), 3, true)
    else bad
  else if 240 ≤ g l 0 ∧ g l 0 ≤ 244 then
    if ct l 1 = true ∧ ct l 2 = true ∧ ct l 3 = true then
      if (((g l 0 - 240) * 64 + (g l 1 - 128)) * 64 + (g l 2 - 128)) * 64 + (g l 3 - 128) < 65536 ∨ 1114111 < (((g l 0 - 240) * 64 + (g l 1 - 128)) * 64 + (g l 2 - 128)) * 64 + (g l 3 - 128) then bad
      else ((((g l 0 - 240) * 64 + (g l 1 - 128)) * 64 + (g l 2 - 128)) * 64 + (g l 3 - 128), 4, true)
    else bad
  else bad
theorem g_le (l : List UInt8) (k : Nat) : g l k ≤ 255 := by
  unfold g
  cases l[k]? with
  | none => simp
  | some b => have := b.toNat_lt; simp; omega
theorem get_g (s : ByteArray) (i k : Nat) (h : i + k < s.size) : (s.get! (i + k)).toNat = g (s.data.toList.drop i) k := by
  unfold g
  have h' : i + k < s.data.size := h
  rw [List.getElem?_drop, Array.getElem?_toList, Array.getElem?_eq_getElem h']
  show (s.data[i + k]!).toNat = (s.data[i + k]).toNat
  rw [getElem!_pos s.data (i + k) h']
theorem cont_ct (s : ByteArray) (i k : Nat) : (decide (i + k < s.size) && (s.get! (i + k)).toNat / 64 == 2) = ct (s.data.toList.drop i) k := by
  unfold ct
  by_cases h : i + k < s.size
  · have h2 : k < (s.data.toList.drop i).length := by
      rw [List.length_drop]; have : s.data.toList.length = s.size := by rw [Array.length_toList]; rfl
      omega
    rw [get_g s i k h, decide_eq_true h, decide_eq_true h2]
    simp only [Bool.true_and]
    have := g_le (s.data.toList.drop i) k
    rw [Bool.eq_iff_iff]
    simp
    omega
  · have h2 : ¬ k < (s.data.toList.drop i).length := by
      rw [List.length_drop]; have : s.data.toList.length = s.size := by rw [Array.length_toList]; rfl
      omega
    rw [decide_eq_false h, decide_eq_false h2]
    rfl
theorem ct_g {l : List UInt8} {k : Nat} (h : ct l k = true) : 128 ≤ g l k ∧ g l k ≤ 191 := by
  unfold ct at h
  simp at h
  exact h.2
theorem valid_iff (c : Nat) : Utf8.valid (c : Int) = true ↔ c < 55296 ∨ (57344 ≤ c ∧ c ≤ 1114111) := by
  unfold Utf8.valid
  simp
  omega
theorem decode_rune (s : ByteArray) (i : Nat) (h : i < s.size) : Utf8.decode s i = ((rune (s.data.toList.drop i)).1, (rune (s.data.toList.drop i)).2.1) := by
  have e0 : (s.get! (i + 0)).toNat = g (s.data.toList.drop i) 0 := get_g s i 0 h
  have c1 := cont_ct s i 1
  have c2 := cont_ct s i 2
  have c3 := cont_ct s i 3
  have a1 : ct (s.data.toList.drop i) 1 = true → (s.get! (i + 1)).toNat = g (s.data.toList.drop i) 1 := fun hh => by
    rw [← c1] at hh; simp at hh; exact get_g s i 1 hh.1
  have a2 : ct (s.data.toList.drop i) 2 = true → (s.get! (i + 2)).toNat = g (s.data.toList.drop i) 2 := fun hh => by
    rw [← c2] at hh; simp at hh; exact get_g s i 2 hh.1
  have a3 : ct (s.data.toList.drop i) 3 = true → (s.get! (i + 3)).toNat = g (s.data.toList.drop i) 3 := fun hh => by
    rw [← c3] at hh; simp at hh; exact get_g s i 3 hh.1
  unfold Utf8.decode
  simp only [e0, c1, c2, c3]
  generalize s.data.toList.drop i = l at *
  have b0 := g_le l 0
  have n1 := @ct_g l 1
  have n2 := @ct_g l 2
  have n3 := @ct_g l 3
  unfold rune
  by_cases h0 : g l 0 < 128
  · simp only [h0, if_true]
  simp only [h0, if_false]
  generalize ct l 1 = B1 at *
  generalize ct l 2 = B2 at *
  generalize ct l 3 = B3 at *
  generalize g l 0 = x at *
  generalize g l 1 = y1 at *
  generalize g l 2 = y2 at *
  generalize g l 3 = y3 at *
  generalize (s.get! (i + 1)).toNat = z1 at *
  generalize (s.get! (i + 2)).toNat = z2 at *
  generalize (s.get! (i + 3)).toNat = z3 at *
  clear e0 c1 c2 c3
  unfold bad
  simp only [valid_iff, beq_iff_eq, decide_eq_true_eq, ge_iff_le, Bool.and_eq_true, Utf8.runeError]
  cases B1 <;> cases B2 <;> cases B3
  all_goals
    simp only [true_implies, Bool.false_eq_true, false_implies, and_true, and_false, if_false, and_self, if_true] at a1 a2 a3 n1 n2 n3 ⊢
    repeat' split
  all_goals
    first
      | (exfalso; omega)
      | (dsimp only; done)
      | (simp only [Prod.mk.injEq]; done)
      | (simp only [Prod.mk.injEq]; omega)
      | (dsimp only; simp only [Prod.mk.injEq]; done)
      | (dsimp only; simp only [Prod.mk.injEq, and_true]; omega)
theorem ct_len {l : List UInt8} {k : Nat} (h : ct l k = true) : k < l.length := by
  unfold ct at h
  simp at h
  exact h.1
theorem rune_bd (l : List UInt8) (h : l ≠ []) : 1 ≤ (rune l).2.1 ∧ (rune l).2.1 ≤ 4 ∧ (rune l).2.1 ≤ l.length ∧ (rune l).1 ≤ 1114111 := by
  have hl : 1 ≤ l.length := by
    cases l with
    | nil => exact absurd rfl h
    | cons x r => simp
  have n1 := @ct_g l 1
  have n2 := @ct_g l 2
  have n3 := @ct_g l 3
  have m1 := @ct_len l 1
  have m2 := @ct_len l 2
  have m3 := @ct_len l 3
  unfold rune bad
  repeat' split
  all_goals
    dsimp only
  · omega
  · rename_i h1 h2 h3
    have := m1 h3
    have := n1 h3
    omega
  · omega
  · omega
  · rename_i h1 h2 h3 h4 h5
    have := m1 h4.1
    have := m2 h4.2
    have := n1 h4.1
    have := n2 h4.2
    omega
  · omega
  · omega
  · rename_i h1 h2 h3 h4 h5 h6
    have := m1 h5.1
    have := m2 h5.2.1
    have := m3 h5.2.2
    omega
  · omega
  · omega
def runes (l : List UInt8) : List (Nat × Nat × Bool) :=
  if h : l = [] then [] else rune l :: runes (l.drop (rune l).2.1)
termination_by l.length
decreasing_by
  have := rune_bd l h
  rw [List.length_drop]
  omega
theorem runes_nil : runes [] = [] := by rw [runes]; simp
theorem runes_cons {l : List UInt8} (h : l ≠ []) : runes l = rune l :: runes (l.drop (rune l).2.1) := by rw [runes, dif_neg h]
theorem runes_len (l : List UInt8) : (runes l).length ≤ l.length := by
  by_cases h : l = []
  · subst h; rw [runes_nil]; simp
  · rw [runes_cons h]
    have := rune_bd l h
    have ih := runes_len (l.drop (rune l).2.1)
    rw [List.length_drop] at ih
    simp only [List.length_cons]
    omega
termination_by l.length
decreasing_by
  rw [List.length_drop]
  have := rune_bd l h
  omega
end Go.Proofs.YtphclpjekpdifaaGreat.Nm.Pl
namespace Go.Proofs.YtphclpjekpdifaaGreat.Nm.Pl
set_option linter.unusedVariables false
theorem rune_bad {l : List UInt8} (h : (rune l).2.2 = false) : rune l = bad := by
  revert h
  unfold rune
  repeat' split
  all_goals
    intro h
    first | (exact Bool.noConfusion h) | rfl
def wd : List (Nat × Nat × Bool) → Nat
  | [] => 0
  | x :: r => x.2.1 + wd r
theorem wd_all (l : List UInt8) : wd (runes l) = l.length := by
  by_cases h : l = []
  · subst h; rw [runes_nil]; rfl
  · rw [runes_cons h]
    have := rune_bd l h
    have ih := wd_all (l.drop (rune l).2.1)
    rw [List.length_drop] at ih
    simp only [wd]
    omega
termination_by l.length
decreasing_by
  rw [List.length_drop]
  have := rune_bd l h
  omega
end Go.Proofs.YtphclpjekpdifaaGreat.Nm.Pl
namespace Go.Proofs.YtphclpjekpdifaaGreat.Nm.Pl
set_option linter.unusedVariables false
theorem take_g {l : List UInt8} : ∀ {k : Nat}, k ≤ l.length → l.take k = (List.range k).map fun i => (g l i).toUInt8 := by
  intro k hk
  apply List.ext_getElem?
  intro i
  by_cases hi : i < k
  · rw [List.getElem?_take_of_lt hi, List.getElem?_map, List.getElem?_range hi]
    have hl : i < l.length := by omega
    simp [g, hl]
  · rw [List.getElem?_eq_none (by rw [List.length_take]; omega), List.getElem?_eq_none (by simp; omega)]
theorem take1 {l : List UInt8} (h : 1 ≤ l.length) : l.take 1 = [(g l 0).toUInt8] := by rw [take_g h]; rfl
theorem take2 {l : List UInt8} (h : 2 ≤ l.length) : l.take 2 = [(g l 0).toUInt8, (g l 1).toUInt8] := by rw [take_g h]; rfl
theorem take3 {l : List UInt8} (h : 3 ≤ l.length) : l.take 3 = [(g l 0).toUInt8, (g l 1).toUInt8, (g l 2).toUInt8] := by rw [take_g h]; rfl
theorem take4 {l : List UInt8} (h : 4 ≤ l.length) : l.take 4 = [(g l 0).toUInt8, (g l 1).toUInt8, (g l 2).toUInt8, (g l 3).toUInt8] := by rw [take_g h]; rfl
theorem right_ways {l : List UInt8} (h : (rune l).2.2 = true) :
    (g l 0 < 128 ∧ rune l = (g l 0, 1, true))
    ∨ (194 ≤ g l 0 ∧ g l 0 ≤ 223 ∧ ct l 1 = true ∧ rune l = ((g l 0 - 192) * 64 + (g l 1 - 128), 2, true))
    ∨ (224 ≤ g l 0 ∧ g l 0 ≤ 239 ∧ ct l 1 = true ∧ ct l 2 = true ∧ ¬ (((g l 0 - 224) * 64 + (g l 1 - 128)) * 64 + (g l 2 - 128) < 2048 ∨ (55296 ≤ ((g l 0 - 224) * 64 + (g l 1 - 128)) * 64 + (g l 2 - 128) ∧ ((g l 0 - 224) * 64 + (g l 1 - 128)) * 64 + (g l 2 - 128) ≤ 57343)) ∧ rune l = (((g l 0 - 224) * 64 + (g l 1 - 128)) * 64 + (g l 2 - 128), 3, true))
    ∨ (240 ≤ g l 0 ∧ g l 0 ≤ 244 ∧ ct l 1 = true ∧ ct l 2 = true ∧ ct l 3 = true ∧ ¬ ((((g l 0 - 240) * 64 + (g l 1 - 128)) * 64 + (g l 2 - 128)) * 64 + (g l 3 - 128) < 65536 ∨ 1114111 < (((g l 0 - 240) * 64 + (g l 1 - 128)) * 64 + (g l 2 - 128)) * 64 + (g l 3 - 128)) ∧ rune l = ((((g l 0 - 240) * 64 + (g l 1 - 128)) * 64 + (g l 2 - 128)) * 64 + (g l 3 - 128), 4, true)) := by
  revert h
  unfold rune
  by_cases h0 : g l 0 < 128
  · rw [if_pos h0]; intro _; exact .inl ⟨h0, rfl⟩
  rw [if_neg h0]
  by_cases h1 : 194 ≤ g l 0 ∧ g l 0 ≤ 223
  · rw [if_pos h1]
    by_cases c : ct l 1 = true
    · rw [if_pos c]; intro _; exact .inr (.inl ⟨h1.1, h1.2, c, rfl⟩)
    · rw [if_neg c]; intro h; exact Bool.noConfusion h
  rw [if_neg h1]
  by_cases h2 : 224 ≤ g l 0 ∧ g l 0 ≤ 239
  · rw [if_pos h2]
    by_cases c : ct l 1 = true ∧ ct l 2 = true
    · rw [if_pos c]
      split
      · intro h; exact Bool.noConfusion h
      · rename_i d; intro _; exact .inr (.inr (.inl ⟨h2.1, h2.2, c.1, c.2, d, rfl⟩))
    · rw [if_neg c]; intro h; exact Bool.noConfusion h
  rw [if_neg h2]
  by_cases h3 : 240 ≤ g l 0 ∧ g l 0 ≤ 244
  · rw [if_pos h3]
    by_cases c : ct l 1 = true ∧ ct l 2 = true ∧ ct l 3 = true
    · rw [if_pos c]
      split
      · intro h; exact Bool.noConfusion h
      · rename_i d; intro _; exact .inr (.inr (.inr ⟨h3.1, h3.2, c.1, c.2.1, c.2.2, d, rfl⟩))
    · rw [if_neg c]; intro h; exact Bool.noConfusion h
  · rw [if_neg h3]; intro h; exact Bool.noConfusion h
theorem toU (x : Int) (n : Nat) (h : x = (n : Int)) : x.toNat.toUInt8 = n.toUInt8 := by subst h; rfl
theorem enc {l : List UInt8} (hl : l ≠ []) (h : (rune l).2.2 = true) : Lib.encodeRune ((rune l).1 : Int) = l.take (rune l).2.1 := by
  have hbd := rune_bd l hl
  have n1 := @ct_g l 1
  have n2 := @ct_g l 2
  have n3 := @ct_g l 3
  rcases right_ways h with ⟨h0, e⟩ | ⟨h0, h1, c1, e⟩ | ⟨h0, h1, c1, c2, d, e⟩ | ⟨h0, h1, c1, c2, c3, d, e⟩
  · rw [e] at hbd ⊢
    dsimp only at hbd ⊢
    rw [take1 hbd.2.2.1]
    unfold Lib.encodeRune
    rw [Lib.encodeRuneZ_one (by omega) (by omega)]
    simp only [List.map_cons, List.map_nil]
    rw [toU _ _ rfl]
  · have := n1 c1
    rw [e] at hbd ⊢
    dsimp only at hbd ⊢
    rw [take2 hbd.2.2.1]
    unfold Lib.encodeRune
    rw [Lib.encodeRuneZ_two (by omega) (by omega)]
    simp only [List.map_cons, List.map_nil]
    rw [toU _ (g l 0) (by omega), toU _ (g l 1) (by omega)]
  · have := n1 c1
    have := n2 c2
    rw [e] at hbd ⊢
    dsimp only at hbd ⊢
    rw [take3 hbd.2.2.1]
    unfold Lib.encodeRune
    rw [Lib.encodeRuneZ_three (by omega)]
    simp only [List.map_cons, List.map_nil]
    rw [toU _ (g l 0) (by omega), toU _ (g l 1) (by omega), toU _ (g l 2) (by omega)]
  · have := n1 c1
    have := n2 c2
    have := n3 c3
    rw [e] at hbd ⊢
    dsimp only at hbd ⊢
    rw [take4 hbd.2.2.1]
    unfold Lib.encodeRune
    rw [Lib.encodeRuneZ_four (by omega) (by omega)]
    simp only [List.map_cons, List.map_nil]
    rw [toU _ (g l 0) (by omega), toU _ (g l 1) (by omega), toU _ (g l 2) (by omega), toU _ (g l 3) (by omega)]
def okay (l : List UInt8) : Bool := (runes l).all fun r => r.2.2
def nums (l : List UInt8) : List Nat := (runes l).map fun r => r.1
theorem okay_nil : okay [] = true := by simp [okay, runes_nil]
theorem okay_cons {l : List UInt8} (h : l ≠ []) : okay l = ((rune l).2.2 && okay (l.drop (rune l).2.1)) := by unfold okay; rw [runes_cons h, List.all_cons]
theorem nums_nil : nums [] = [] := by simp [nums, runes_nil]
theorem nums_cons {l : List UInt8} (h : l ≠ []) : nums l = (rune l).1 :: nums (l.drop (rune l).2.1) := by unfold nums; rw [runes_cons h, List.map_cons]
theorem nums_inj (a b : List UInt8) (ha : okay a = true) (hb : okay b = true) (h : nums a = nums b) : a = b := by
  by_cases ea : a = []
  · subst ea
    by_cases eb : b = []
    · exact eb.symm
    · rw [nums_nil, nums_cons eb] at h; cases h
  · by_cases eb : b = []
    · subst eb; rw [nums_nil, nums_cons ea] at h; cases h
    · rw [okay_cons ea, Bool.and_eq_true] at ha
      rw [okay_cons eb, Bool.and_eq_true] at hb
      rw [nums_cons ea, nums_cons eb] at h
      injection h with h1 h2
      have hbd := rune_bd a ea
      have e1 := enc ea ha.1
      have e2 := enc eb hb.1
      rw [h1] at e1
      have e3 := e1.symm.trans e2
      have e4 := nums_inj (a.drop (rune a).2.1) (b.drop (rune b).2.1) ha.2 hb.2 h2
      rw [← List.take_append_drop (rune a).2.1 a, e3, e4, List.take_append_drop]
termination_by a.length
decreasing_by
  rw [List.length_drop]
  omega
def lt : List Nat → List Nat → Bool
  | [], [] => false
  | [], _ :: _ => true
  | _ :: _, [] => false
  | x :: a, y :: b => if x = y then lt a b else decide (x < y)
theorem lt_self (a : List Nat) : lt a a = false := by
  induction a with
  | nil => rfl
  | cons x r ih => simp [lt, ih]
theorem lt_asymm (a b : List Nat) : (lt a b && lt b a) = false := by
  induction a generalizing b with
  | nil => cases b <;> rfl
  | cons x r ih =>
    cases b with
    | nil => rfl
    | cons y s =>
      simp only [lt]
      by_cases h : x = y
      · subst h; simpa using ih s
      · rw [if_neg h, if_neg (fun e => h e.symm)]
        simp only [Bool.and_eq_false_iff, decide_eq_false_iff_not]
        omega
theorem lt_trans (a b c : List Nat) (h : lt a b = true) (k : lt b c = true) : lt a c = true := by
  induction a generalizing b c with
  | nil =>
    cases b with
    | nil => cases h
    | cons y s =>
      cases c with
      | nil => cases k
      | cons z t => rfl
  | cons x r ih =>
    cases b with
    | nil => cases h
    | cons y s =>
      cases c with
      | nil => cases k
      | cons z t =>
        simp only [lt] at h k ⊢
        by_cases e1 : x = y
        · subst e1
          rw [if_pos rfl] at h
          by_cases e2 : x = z
          · subst e2
            rw [if_pos rfl] at k ⊢
            exact ih s t h k
          · rw [if_neg e2] at k ⊢; exact k
        · rw [if_neg e1, decide_eq_true_eq] at h
          by_cases e2 : y = z
          · subst e2; rw [if_neg e1, decide_eq_true_eq]; exact h
          · rw [if_neg e2, decide_eq_true_eq] at k
            rw [if_neg (by omega), decide_eq_true_eq]; omega
theorem lt_total (a b : List Nat) (h : lt a b = false) (k : lt b a = false) : a = b := by
  induction a generalizing b with
  | nil => cases b with
    | nil => rfl
    | cons y s => cases h
  | cons x r ih =>
    cases b with
    | nil => cases k
    | cons y s =>
      simp only [lt] at h k
      by_cases e : x = y
      · subst e
        rw [if_pos rfl] at h k
        rw [ih s h k]
      · rw [if_neg e, decide_eq_false_iff_not] at h
        rw [if_neg (fun q => e q.symm), decide_eq_false_iff_not] at k
        omega
def less (a b : List UInt8) : Bool := lt (nums a) (nums b)
end Go.Proofs.YtphclpjekpdifaaGreat.Nm.Pl
namespace Go.Proofs.YtphclpjekpdifaaGreat.Nm
open Go.RowKit
set_option linter.unusedVariables false
def alw (c : Nat) : Bool := !(decide (c < 33) || (decide (127 ≤ c) && decide (c ≤ 160)) || c == 8232 || c == 8233 || c == 65533)
def lowN (c : Nat) : Nat := if 65 ≤ c ∧ c ≤ 90 then c + 32 else c
theorem alw_iff (c : Nat) : alw c = true ↔ (33 ≤ c ∧ ¬ (127 ≤ c ∧ c ≤ 160) ∧ c ≠ 8232 ∧ c ≠ 8233 ∧ c ≠ 65533) := by
  simp [alw]; omega
theorem ret_t {b : Bool} (h : b = true) : Ending.returned (.bool true) = .returned (.bool b) := by rw [h]
theorem ret_f {b : Bool} (h : ¬ b = true) : Ending.returned (.bool false) = .returned (.bool b) := by rw [Bool.eq_false_iff.2 h]
theorem lowN_is (c : Nat) : (65 ≤ c ∧ c ≤ 90 ∧ lowN c = c + 32) ∨ (¬ (65 ≤ c ∧ c ≤ 90) ∧ lowN c = c) := by
  unfold lowN; split <;> omega
theorem ret_i {a b : Int} (h : a = b) : Ending.returned (.int .i32 a) = .returned (.int .i32 b) := by rw [h]
theorem ret_b {a b : Bool} (h : a = b) : Ending.returned (.bool a) = .returned (.bool b) := by rw [h]
set_option maxRecDepth 20000 in
theorem allowed_any (c : Nat) (w : World) (hc : c ≤ 1114111) : Calls Tryz.prog 117 #[.int .i32 c] w fun e w' => e = .returned (.bool (alw c)) ∧ w = w' := by
  have HI := Lib.hid (alw_iff c)
  generalize alw c = A at *
  go_enter Tryz.func117, Tryz.ntmps117
  go_wp2_with fail
  all_goals
    try simp only [beq_iff_eq, beq_eq_false_iff_ne] at *
    go_ret
    refine ⟨?_, rfl⟩
    first
      | (refine ret_t (HI.out.2 ?_); omega)
      | (refine ret_f (fun h => ?_); have := HI.out.1 h; omega)
def L (s : ByteArray) (p : Nat) : List UInt8 := s.data.toList.drop p
theorem L_zero (s : ByteArray) : L s 0 = s.data.toList := by simp [L]
theorem L_ne {s : ByteArray} {p : Nat} (h : p < s.size) : L s p ≠ [] := by
  intro e
  have := congrArg List.length e
  simp only [L, List.length_drop, List.length_nil, Array.length_toList] at this
  have : s.data.size = s.size := rfl
  omega
theorem L_end {s : ByteArray} {p : Nat} (h : ¬ p < s.size) : L s p = [] := by
  unfold L
  rw [List.drop_eq_nil_iff, Array.length_toList]
  have : s.data.size = s.size := rfl
  omega
theorem L_drop (s : ByteArray) (p k : Nat) : (L s p).drop k = L s (p + k) := by simp [L]
theorem dec {s : ByteArray} {p : Nat} (h : p < s.size) : Utf8.decode s p = ((Pl.rune (L s p)).1, (Pl.rune (L s p)).2.1) := Pl.decode_rune s p h
theorem L_len (s : ByteArray) (p : Nat) : (L s p).length = s.size - p := by
  simp only [L, List.length_drop, Array.length_toList]; rfl
theorem wr {x : Int} (h : -9223372036854775808 ≤ x) (k : x ≤ 9223372036854775807) : wrap64 x = x := by unfold wrap64; omega
theorem iter_below (w : World) (s : ByteArray) (p : Nat) : Below w.heap.size w (w.iter s p) := (Below.refl _ _).alloc (Nat.le_refl _) _
theorem runes_step {s : ByteArray} {p : Nat} (h : p < s.size) : Pl.runes (L s p) = Pl.rune (L s p) :: Pl.runes (L s (p + (Pl.rune (L s p)).2.1)) := by
  rw [Pl.runes_cons (L_ne h), L_drop]
theorem nums_step {s : ByteArray} {p : Nat} (h : p < s.size) : Pl.nums (L s p) = (Pl.rune (L s p)).1 :: Pl.nums (L s (p + (Pl.rune (L s p)).2.1)) := by
  rw [Pl.nums_cons (L_ne h), L_drop]
theorem runes_size (s : ByteArray) (p : Nat) : (Pl.runes (L s p)).length ≤ s.size - p := by
  rw [← L_len]; exact Pl.runes_len _
def may (l : List UInt8) : Bool := decide (1 ≤ (Pl.runes l).length) && decide ((Pl.runes l).length ≤ 24) && (Pl.nums l).all alw && !(Pl.g l 0 == 45)
theorem may_iff (l : List UInt8) : may l = true ↔ (1 ≤ (Pl.runes l).length ∧ (Pl.runes l).length ≤ 24 ∧ (Pl.nums l).all alw = true ∧ Pl.g l 0 ≠ 45) := by
  simp only [may, Bool.and_eq_true, decide_eq_true_eq, Bool.not_eq_true', beq_eq_false_iff_ne, ne_eq, and_assoc]
theorem dash {l : List UInt8} : (Pl.rune l).1 = 45 ↔ Pl.g l 0 = 45 := by
  constructor
  · intro h
    cases hr : (Pl.rune l).2.2
    · rw [Pl.rune_bad hr] at h; cases h
    · rcases Pl.right_ways hr with ⟨h0, e⟩ | ⟨h0, h1, c1, e⟩ | ⟨h0, h1, c1, c2, d, e⟩ | ⟨h0, h1, c1, c2, c3, d, e⟩
      · rw [e] at h; exact h
      · rw [e] at h; dsimp only at h; omega
      · rw [e] at h; dsimp only at h; omega
      · rw [e] at h; dsimp only at h; omega
  · intro h
    unfold Pl.rune
    rw [if_pos (by omega)]; exact h
set_option maxRecDepth 20000 in
theorem may_any (s : ByteArray) (w : World) (hs : s.size ≤ 281474976710656) :
    Calls Tryz.prog 77 #[.string s] w fun e w' => e = .returned (.bool (may s.data.toList)) ∧ Below w.heap.size w w' := by
  rw [← L_zero]
  have htot := runes_size s 0
  have HM := Lib.hid (may_iff (L s 0))
  generalize may (L s 0) = M at *
  go_enter Tryz.func77, Tryz.ntmps77
  go_wp2_with fail
  go_loopw [3] (fun n w' => ∃ (pos k : Nat), w' = w.iter s pos ∧ n = .int .i64 (k : Nat) ∧ k + (Pl.runes (L s pos)).length = (Pl.runes (L s 0)).length ∧ (Pl.nums (L s 0)).all alw = (Pl.nums (L s pos)).all alw ∧ k ≤ 24 ∧ (pos = 0 ∨ Pl.g (L s 0) 0 ≠ 45) ∧ pos ≤ s.size) (fun _ w' => s.size - w'.iterPos w.heap.size)
  case atStart => exact ⟨0, 0, rfl, rfl, by omega, rfl, by omega, .inl rfl, by omega⟩
  case round =>
    obtain ⟨pos, k, rfl, rfl, hk, hall, hk24, hd, hle⟩ := hrel
    by_cases hp : pos < s.size
    · have hnx : ∀ ty, (Instr.next (.pointer (some ⟨w.heap.size, 0, none⟩)) true ty).run Tryz.prog (w.iter s pos) = _ := fun ty => run_next_any w s pos ty hp
      rw [dec hp] at hnx
      have hbd := Pl.rune_bd (L s pos) (L_ne hp)
      have hll := L_len s pos
      have hrs := runes_step hp
      have hns := nums_step hp
      rw [hrs, List.length_cons] at hk
      rw [hns, List.all_cons] at hall
      have HK := Lib.hid hk
      have HA := Lib.hid hall
      have HD := Lib.hid hd
      have HB := Lib.hid hbd
      have hc := hbd.2.2.2
      have HP := Lib.hid (show pos + (Pl.rune (L s pos)).2.1 ≤ s.size by omega)
      have HW := Lib.hid hbd.1
      generalize hr : Pl.rune (L s pos) = r at *
      clear hk hall hd hbd hrs hns hll htot hle
      go_wp2_with (go_at_call 117; refine (allowed_any _ _ (by omega)).mono ?_; rintro e w1 ⟨rfl, rfl⟩)
      · have h0 : pos = 0 := by assumption
        have h1 : 24 < (k : Int) + 1 ∨ ((r.1 : Int) == 45) = true := by assumption
        subst h0
        go_ret
        refine ⟨ret_f fun hM => ?_, iter_below _ _ _⟩
        have hM := HM.out.1 hM
        have := HK.out
        rcases h1 with h1 | h1
        · omega
        · rw [beq_iff_eq] at h1
          exact hM.2.2.2 (dash.1 (by rw [hr]; omega))
      · have h0 : pos = 0 := by assumption
        have h1 : (k : Int) + 1 ≤ 24 ∧ ((r.1 : Int) == 45) = false := by assumption
        subst h0
        refine ⟨⟨0 + r.2.1, k + 1, by rw [Nat.zero_add], rfl, by have := HK.out; omega, ?_, by omega, .inr fun e => ?_, HP.out⟩, ?_⟩
        · rw [HA.out, show alw r.1 = true by assumption, Bool.true_and]
        · have h2 := h1.2
          rw [beq_eq_false_iff_ne] at h2
          have := dash.2 e
          rw [hr] at this
          omega
        · have := HW.out
          simp
          omega
      · have h0 : ¬ pos = 0 := by assumption
        have h1 : (k : Int) + 1 ≤ 24 := by assumption
        refine ⟨⟨pos + r.2.1, k + 1, rfl, rfl, by have := HK.out; omega, ?_, by omega, .inr (HD.out.resolve_left h0), HP.out⟩, ?_⟩
        · rw [HA.out, show alw r.1 = true by assumption, Bool.true_and]
        · have := HW.out
          simp
          omega
      · have h1 : ¬ alw r.1 = true := by assumption
        go_ret
        refine ⟨ret_f fun hM => ?_, iter_below _ _ _⟩
        have hM := (HM.out.1 hM).2.2.1
        rw [HA.out, Bool.and_eq_true] at hM
        exact h1 hM.1
      · have h1 : 24 < (k : Int) + 1 := by assumption
        go_ret
        refine ⟨ret_f fun hM => ?_, iter_below _ _ _⟩
        have hM := HM.out.1 hM
        have := HK.out
        omega
    · have hnx : ∀ ty, (Instr.next (.pointer (some ⟨w.heap.size, 0, none⟩)) true ty).run Tryz.prog (w.iter s pos) = _ := fun ty => run_next_end w s pos ty hp
      rw [L_end hp, Pl.runes_nil] at hk
      rw [L_end hp, Pl.nums_nil] at hall
      have HK := Lib.hid hk
      have HA := Lib.hid hall
      have HD := Lib.hid hd
      clear hk hall hd htot
      go_wp2_with fail
      go_ret
      refine ⟨ret_b ?_, iter_below _ _ _⟩
      have hk := HK.out
      simp only [List.length_nil, Nat.add_zero] at hk
      rw [Bool.eq_iff_iff, decide_eq_true_eq, HM.out]
      constructor
      · intro h
        refine ⟨by omega, by omega, by rw [HA.out]; rfl, ?_⟩
        rcases HD.out with h0 | h0
        · subst h0
          rw [L_end hp, Pl.runes_nil] at hk
          simp at hk
          omega
        · exact h0
      · intro h
        omega
def str (l : List UInt8) : ByteArray := ⟨l.toArray⟩
theorem str_list (s : ByteArray) : str s.data.toList = s := by cases s; rfl
theorem list_str (l : List UInt8) : (str l).data.toList = l := rfl
theorem str_size (l : List UInt8) : (str l).size = l.length := by show l.toArray.size = _; simp
theorem str_inj {a b : List UInt8} : str a = str b ↔ a = b := ⟨fun h => by have := congrArg (fun x : ByteArray => x.data.toList) h; simpa [str] using this, fun h => by rw [h]⟩
theorem ext_str {s : ByteArray} {l : List UInt8} (h : s.data.toList = l) : s = str l := by rw [← h, str_list]
theorem extract_back (s : ByteArray) (p : Nat) : s.extract p s.size = str (L s p) := by
  apply ext_str
  rw [Lib.extract_data, List.take_of_length_le (by rw [← L, L_len]; exact Nat.le_refl _)]; rfl
end Go.Proofs.YtphclpjekpdifaaGreat.Nm
