import Derived.Test.YtodalljccjcejaaPm
import Derived.Lib.RuneBytes
namespace Go.Proofs.Ytodalljccjcejaa.Pl
set_option linter.unusedVariables false

/-! ### bytes of a right rune -/
theorem take_g {l : List UInt8} : ∀ {k : Nat}, k ≤ l.length → l.take k = (List.range k).map fun i => (g l i).toUInt8 := by
  intro k hk
  apply List.ext_getElem?
  intro i
  by_cases hi : i < k
  · rw [List.getElem?_take_of_lt hi, List.getElem?_map, List.getElem?_range hi]
    have hl : i < l.length := by omega
    simp [g, hl]
  · rw [List.getElem?_eq_none (by rw [List.length_take]; omega), List.getElem?_eq_none (by simp; omega)]
theorem take1 {l : List UInt8} (h : 1 ≤ l.length) : l.take 1 = [(g l 0).toUInt8] := by rw [take_g h]; rfl
theorem take2 {l : List UInt8} (h : 2 ≤ l.length) : l.take 2 = [(g l 0).toUInt8, (g l 1).toUInt8] := by rw [take_g h]; rfl
theorem take3 {l : List UInt8} (h : 3 ≤ l.length) : l.take 3 = [(g l 0).toUInt8, (g l 1).toUInt8, (g l 2).toUInt8] := by rw [take_g h]; rfl
theorem take4 {l : List UInt8} (h : 4 ≤ l.length) : l.take 4 = [(g l 0).toUInt8, (g l 1).toUInt8, (g l 2).toUInt8, (g l 3).toUInt8] := by rw [take_g h]; rfl
/-- the ways in which a rune is right -/
theorem right_ways {l : List UInt8} (h : (rune l).2.2 = true) :
    (g l 0 < 128 ∧ rune l = (g l 0, 1, true))
    ∨ (194 ≤ g l 0 ∧ g l 0 ≤ 223 ∧ ct l 1 = true ∧ rune l = ((g l 0 - 192) * 64 + (g l 1 - 128), 2, true))
    ∨ (224 ≤ g l 0 ∧ g l 0 ≤ 239 ∧ ct l 1 = true ∧ ct l 2 = true ∧ ¬ (((g l 0 - 224) * 64 + (g l 1 - 128)) * 64 + (g l 2 - 128) < 2048 ∨ (55296 ≤ ((g l 0 - 224) * 64 + (g l 1 - 128)) * 64 + (g l 2 - 128) ∧ ((g l 0 - 224) * 64 + (g l 1 - 128)) * 64 + (g l 2 - 128) ≤ 57343)) ∧ rune l = (((g l 0 - 224) * 64 + (g l 1 - 128)) * 64 + (g l 2 - 128), 3, true))
    ∨ (240 ≤ g l 0 ∧ g l 0 ≤ 244 ∧ ct l 1 = true ∧ ct l 2 = true ∧ ct l 3 = true ∧ ¬ ((((g l 0 - 240) * 64 + (g l 1 - 128)) * 64 + (g l 2 - 128)) * 64 + (g l 3 - 128) < 65536 ∨ 1114111 < (((g l 0 - 240) * 64 + (g l 1 - 128)) * 64 + (g l 2 - 128)) * 64 + (g l 3 - 128)) ∧ rune l = ((((g l 0 - 240) * 64 + (g l 1 - 128)) * 64 + (g l 2 - 128)) * 64 + (g l 3 - 128), 4, true)) := by
  revert h
  unfold rune
  by_cases h0 : g l 0 < 128
  · rw [if_pos h0]; intro _; exact .inl ⟨h0, rfl⟩
  rw [if_neg h0]
  by_cases h1 : 194 ≤ g l 0 ∧ g l 0 ≤ 223
  · rw [if_pos h1]
    by_cases c : ct l 1 = true
    · rw [if_pos c]; intro _; exact .inr (.inl ⟨h1.1, h1.2, c, rfl⟩)
    · rw [if_neg c]; intro h; exact Bool.noConfusion h
  rw [if_neg h1]
  by_cases h2 : 224 ≤ g l 0 ∧ g l 0 ≤ 239
  · rw [if_pos h2]
    by_cases c : ct l 1 = true ∧ ct l 2 = true
    · rw [if_pos c]
      split
      · intro h; exact Bool.noConfusion h
      · rename_i d; intro _; exact .inr (.inr (.inl ⟨h2.1, h2.2, c.1, c.2, d, rfl⟩))
    · rw [if_neg c]; intro h; exact Bool.noConfusion h
  rw [if_neg h2]
  by_cases h3 : 240 ≤ g l 0 ∧ g l 0 ≤ 244
  · rw [if_pos h3]
    by_cases c : ct l 1 = true ∧ ct l 2 = true ∧ ct l 3 = true
    · rw [if_pos c]
      split
      · intro h; exact Bool.noConfusion h
      · rename_i d; intro _; exact .inr (.inr (.inr ⟨h3.1, h3.2, c.1, c.2.1, c.2.2, d, rfl⟩))
    · rw [if_neg c]; intro h; exact Bool.noConfusion h
  · rw [if_neg h3]; intro h; exact Bool.noConfusion h
theorem toU (x : Int) (n : Nat) (h : x = (n : Int)) : x.toNat.toUInt8 = n.toUInt8 := by subst h; rfl
/-- a right rune's bytes are its number's -/
theorem enc {l : List UInt8} (hl : l ≠ []) (h : (rune l).2.2 = true) : Lib.encodeRune ((rune l).1 : Int) = l.take (rune l).2.1 := by
  have hbd := rune_bd l hl
  have n1 := @ct_g l 1
  have n2 := @ct_g l 2
  have n3 := @ct_g l 3
  rcases right_ways h with ⟨h0, e⟩ | ⟨h0, h1, c1, e⟩ | ⟨h0, h1, c1, c2, d, e⟩ | ⟨h0, h1, c1, c2, c3, d, e⟩
  · rw [e] at hbd ⊢
    dsimp only at hbd ⊢
    rw [take1 hbd.2.2.1]
    unfold Lib.encodeRune
    rw [Lib.encodeRuneZ_one (by omega) (by omega)]
    simp only [List.map_cons, List.map_nil]
    rw [toU _ _ rfl]
  · have := n1 c1
    rw [e] at hbd ⊢
    dsimp only at hbd ⊢
    rw [take2 hbd.2.2.1]
    unfold Lib.encodeRune
    rw [Lib.encodeRuneZ_two (by omega) (by omega)]
    simp only [List.map_cons, List.map_nil]
    rw [toU _ (g l 0) (by omega), toU _ (g l 1) (by omega)]
  · have := n1 c1
    have := n2 c2
    rw [e] at hbd ⊢
    dsimp only at hbd ⊢
    rw [take3 hbd.2.2.1]
    unfold Lib.encodeRune
    rw [Lib.encodeRuneZ_three (by omega)]
    simp only [List.map_cons, List.map_nil]
    rw [toU _ (g l 0) (by omega), toU _ (g l 1) (by omega), toU _ (g l 2) (by omega)]
  · have := n1 c1
    have := n2 c2
    have := n3 c3
    rw [e] at hbd ⊢
    dsimp only at hbd ⊢
    rw [take4 hbd.2.2.1]
    unfold Lib.encodeRune
    rw [Lib.encodeRuneZ_four (by omega) (by omega)]
    simp only [List.map_cons, List.map_nil]
    rw [toU _ (g l 0) (by omega), toU _ (g l 1) (by omega), toU _ (g l 2) (by omega), toU _ (g l 3) (by omega)]
/-- what is decoded as U+FFFD is wrong, but for its own three bytes -/
theorem fffd {l : List UInt8} (hl : l ≠ []) (h : (rune l).1 = 65533) : (rune l).2.2 = [239, 191, 189].isPrefixOf l := by
  cases hr : (rune l).2.2
  · symm
    rw [Bool.eq_false_iff]
    intro hp
    rw [List.isPrefixOf_iff_prefix] at hp
    obtain ⟨t, rfl⟩ := hp
    have e : rune ([239, 191, 189] ++ t) = rune [239, 191, 189] := rune_ext t (by simp) (by decide)
    rw [e] at hr
    revert hr
    decide
  · symm
    rw [List.isPrefixOf_iff_prefix]
    have e := enc hl hr
    rw [h] at e
    have e2 : Lib.encodeRune ((65533 : Nat) : Int) = [239, 191, 189] := by decide
    rw [e2] at e
    rw [e]
    exact List.take_prefix _ _

/-! ### two texts, one behind the other; right texts -/
def okay (l : List UInt8) : Bool := (runes l).all fun r => r.2.2
def nums (l : List UInt8) : List Nat := (runes l).map fun r => r.1
theorem okay_nil : okay [] = true := by simp [okay, runes_nil]
theorem okay_cons {l : List UInt8} (h : l ≠ []) : okay l = ((rune l).2.2 && okay (l.drop (rune l).2.1)) := by unfold okay; rw [runes_cons h, List.all_cons]
theorem nums_nil : nums [] = [] := by simp [nums, runes_nil]
theorem nums_cons {l : List UInt8} (h : l ≠ []) : nums l = (rune l).1 :: nums (l.drop (rune l).2.1) := by unfold nums; rw [runes_cons h, List.map_cons]
theorem runes_app (a b : List UInt8) (h : okay a = true) : runes (a ++ b) = runes a ++ runes b := by
  by_cases ha : a = []
  · subst ha; rw [runes_nil]; simp
  · rw [okay_cons ha, Bool.and_eq_true] at h
    have hbd := rune_bd a ha
    have e := rune_ext b ha h.1
    have hne : a ++ b ≠ [] := by simp [ha]
    rw [runes_cons hne, runes_cons ha, e, List.drop_append, show (rune a).2.1 - a.length = 0 by omega, List.drop_zero,
      runes_app (a.drop (rune a).2.1) b h.2, List.cons_append]
termination_by a.length
decreasing_by
  rw [List.length_drop]
  omega
theorem okay_app {a : List UInt8} (b : List UInt8) (h : okay a = true) : okay (a ++ b) = okay b := by
  unfold okay at h ⊢
  rw [runes_app a b h, List.all_append, h, Bool.true_and]
theorem nums_app {a : List UInt8} (b : List UInt8) (h : okay a = true) : nums (a ++ b) = nums a ++ nums b := by
  unfold nums
  rw [runes_app a b h, List.map_append]
theorem cut_app (a b : List UInt8) (h : okay a = true) : cut (a ++ b) (runes a).length = a := by
  unfold cut
  rw [runes_app a b h, List.take_append_of_le_length (Nat.le_refl _), List.take_length, wd_all, List.take_left]
/-- right texts of the same numbers are the same -/
theorem nums_inj (a b : List UInt8) (ha : okay a = true) (hb : okay b = true) (h : nums a = nums b) : a = b := by
  by_cases ea : a = []
  · subst ea
    by_cases eb : b = []
    · exact eb.symm
    · rw [nums_nil, nums_cons eb] at h; cases h
  · by_cases eb : b = []
    · subst eb; rw [nums_nil, nums_cons ea] at h; cases h
    · rw [okay_cons ea, Bool.and_eq_true] at ha
      rw [okay_cons eb, Bool.and_eq_true] at hb
      rw [nums_cons ea, nums_cons eb] at h
      injection h with h1 h2
      have hbd := rune_bd a ea
      have e1 := enc ea ha.1
      have e2 := enc eb hb.1
      rw [h1] at e1
      have e3 := e1.symm.trans e2
      have e4 := nums_inj (a.drop (rune a).2.1) (b.drop (rune b).2.1) ha.2 hb.2 h2
      rw [← List.take_append_drop (rune a).2.1 a, e3, e4, List.take_append_drop]
termination_by a.length
decreasing_by
  rw [List.length_drop]
  omega

/-! ### an order -/
def lt : List Nat → List Nat → Bool
  | [], [] => false
  | [], _ :: _ => true
  | _ :: _, [] => false
  | x :: a, y :: b => if x = y then lt a b else decide (x < y)
theorem lt_self (a : List Nat) : lt a a = false := by
  induction a with
  | nil => rfl
  | cons x r ih => simp [lt, ih]
theorem lt_asymm (a b : List Nat) : (lt a b && lt b a) = false := by
  induction a generalizing b with
  | nil => cases b <;> rfl
  | cons x r ih =>
    cases b with
    | nil => rfl
    | cons y s =>
      simp only [lt]
      by_cases h : x = y
      · subst h; simpa using ih s
      · rw [if_neg h, if_neg (fun e => h e.symm)]
        simp only [Bool.and_eq_false_iff, decide_eq_false_iff_not]
        omega
theorem lt_trans (a b c : List Nat) (h : lt a b = true) (k : lt b c = true) : lt a c = true := by
  induction a generalizing b c with
  | nil =>
    cases b with
    | nil => cases h
    | cons y s =>
      cases c with
      | nil => cases k
      | cons z t => rfl
  | cons x r ih =>
    cases b with
    | nil => cases h
    | cons y s =>
      cases c with
      | nil => cases k
      | cons z t =>
        simp only [lt] at h k ⊢
        by_cases e1 : x = y
        · subst e1
          rw [if_pos rfl] at h
          by_cases e2 : x = z
          · subst e2
            rw [if_pos rfl] at k ⊢
            exact ih s t h k
          · rw [if_neg e2] at k ⊢; exact k
        · rw [if_neg e1, decide_eq_true_eq] at h
          by_cases e2 : y = z
          · subst e2; rw [if_neg e1, decide_eq_true_eq]; exact h
          · rw [if_neg e2, decide_eq_true_eq] at k
            rw [if_neg (by omega), decide_eq_true_eq]; omega
theorem lt_total (a b : List Nat) (h : lt a b = false) (k : lt b a = false) : a = b := by
  induction a generalizing b with
  | nil => cases b with
    | nil => rfl
    | cons y s => cases h
  | cons x r ih =>
    cases b with
    | nil => cases k
    | cons y s =>
      simp only [lt] at h k
      by_cases e : x = y
      · subst e
        rw [if_pos rfl] at h k
        rw [ih s h k]
      · rw [if_neg e, decide_eq_false_iff_not] at h
        rw [if_neg (fun q => e q.symm), decide_eq_false_iff_not] at k
        omega
theorem lt_app_left (a b : List Nat) : lt (a ++ b) a = false := by
  induction a with
  | nil => cases b <;> rfl
  | cons x r ih => simp [lt, ih]
theorem lt_app (a b : List Nat) : lt a (a ++ b) = !b.isEmpty := by
  induction a with
  | nil => cases b <;> rfl
  | cons x r ih => simp [lt, ih]
/-- is one text less than another? -/
def less (a b : List UInt8) : Bool := lt (nums a) (nums b)
theorem nums_ne {l : List UInt8} (h : l ≠ []) : (nums l).isEmpty = false := by rw [nums_cons h]; rfl
end Go.Proofs.Ytodalljccjcejaa.Pl
