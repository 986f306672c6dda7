/- Plain facts on bits that are turned. No program. -/
import Derived.Test.YtkhhmpcpcdadaaaPl
namespace Go.Proofs.Ytkhhmpcpcdadaaa.Pl
set_option linter.unusedVariables false

/-- the bit p turned -/
def flip (l : List UInt8) (p : Nat) : List UInt8 := l.set (p / 8) (l.getD (p / 8) 0 ^^^ UInt8.ofNat (2 ^ (p % 8)))
def tearTo (b : List UInt8) (at_ turn : Nat) : Nat → List UInt8
  | 0 => b
  | k + 1 => if turn.testBit k then flip (tearTo b at_ turn k) (at_ + k) else tearTo b at_ turn k
theorem flip_length (l : List UInt8) (p : Nat) : (flip l p).length = l.length := by simp [flip]
theorem tearTo_length (b : List UInt8) (at_ turn k : Nat) : (tearTo b at_ turn k).length = b.length := by
  induction k with
  | zero => rfl
  | succ k ih =>
    rw [tearTo]
    split
    · rw [flip_length, ih]
    · exact ih

theorem bit_of (n i : Nat) : n / 2 ^ i % 2 = (n.testBit i).toNat := (Nat.toNat_testBit n i).symm
theorem byte_flip (x : UInt8) (r i : Nat) (hr : r < 8) (hi : i < 8) : (x ^^^ UInt8.ofNat (2 ^ r)).toNat / 2 ^ i % 2 = if i = r then 1 - x.toNat / 2 ^ i % 2 else x.toNat / 2 ^ i % 2 := by
  have hp : 2 ^ r < 256 := Nat.pow_lt_pow_right (by omega) (show r < 8 from hr)
  rw [UInt8.toNat_xor, UInt8.toNat_ofNat', Nat.mod_eq_of_lt hp, bit_of, bit_of, Nat.testBit_xor, Nat.testBit_two_pow]
  by_cases h : i = r
  · subst h
    rw [if_pos rfl, decide_eq_true rfl]
    cases x.toNat.testBit i <;> rfl
  · rw [if_neg h, decide_eq_false (fun e => h e.symm), Bool.xor_false]

theorem flip_get (l : List UInt8) (p j : Nat) : (allBits (flip l p))[j]? = if j = p then (allBits l)[j]?.map (1 - ·) else (allBits l)[j]? := by
  have hj : j = 8 * (j / 8) + j % 8 := by omega
  have e1 := allBits_get (flip l p) (j / 8) (j % 8) (by omega)
  have e2 := allBits_get l (j / 8) (j % 8) (by omega)
  rw [← hj] at e1 e2
  rw [e1, e2]
  unfold flip
  rw [List.getElem?_set]
  by_cases h : p / 8 = j / 8
  · rw [if_pos h]
    by_cases hl : p / 8 < l.length
    · rw [if_pos hl, h, List.getElem?_eq_getElem (by omega)]
      have hd : l.getD (j / 8) 0 = l[j / 8] := by rw [List.getD_eq_getElem?_getD, List.getElem?_eq_getElem (by omega), Option.getD_some]
      simp only [Option.map_some]
      rw [hd, byte_flip _ _ _ (by omega) (by omega)]
      by_cases e : j = p
      · rw [if_pos e, if_pos (by omega)]
      · rw [if_neg e, if_neg (by omega)]
    · rw [if_neg hl, List.getElem?_eq_none (by omega)]
      split <;> rfl
  · rw [if_neg h, if_neg (by omega)]

theorem tear_get (b : List UInt8) (at_ turn : Nat) : ∀ (k j : Nat), (allBits (tearTo b at_ turn k))[j]? = if at_ ≤ j ∧ j < at_ + k ∧ turn.testBit (j - at_) = true then (allBits b)[j]?.map (1 - ·) else (allBits b)[j]? := by
  intro k
  induction k with
  | zero => intro j; rw [tearTo, if_neg (by omega)]
  | succ k ih =>
    intro j
    rw [tearTo]
    by_cases ht : turn.testBit k = true
    · rw [if_pos ht, flip_get]
      by_cases e : j = at_ + k
      · subst e
        rw [if_pos rfl, ih, if_neg (by omega), if_pos ⟨by omega, by omega, by rw [Nat.add_sub_cancel_left]; exact ht⟩]
      · rw [if_neg e, ih]
        by_cases c : at_ ≤ j ∧ j < at_ + k ∧ turn.testBit (j - at_) = true
        · rw [if_pos c, if_pos ⟨c.1, by omega, c.2.2⟩]
        · rw [if_neg c, if_neg (fun d => c ⟨d.1, by omega, d.2.2⟩)]
    · rw [if_neg ht, ih]
      by_cases c : at_ ≤ j ∧ j < at_ + k ∧ turn.testBit (j - at_) = true
      · rw [if_pos c, if_pos ⟨c.1, by omega, c.2.2⟩]
      · rw [if_neg c, if_neg (fun d => by
          rcases Nat.lt_or_ge j (at_ + k) with h | h
          · exact c ⟨d.1, h, d.2.2⟩
          · have : j - at_ = k := by omega
            rw [this] at d
            exact ht d.2.2)]

theorem turn_bit (turn : Nat) (h0 : turn ≠ 0) (h1 : turn < 4294967296) : ∃ k, k < 32 ∧ turn.testBit k = true := by
  apply Classical.byContradiction
  intro h
  apply h0
  apply Nat.eq_of_testBit_eq
  intro i
  rw [Nat.zero_testBit]
  by_cases hi : i < 32
  · cases ht : turn.testBit i with
    | false => rfl
    | true => exact absurd ⟨i, hi, ht⟩ h
  · exact Nat.testBit_lt_two_pow (Nat.lt_of_lt_of_le (show turn < 2 ^ 32 from h1) (Nat.pow_le_pow_right (by omega) (by omega)))

/-- what is torn within 32 bits has another sum -/
theorem tear_sum (b : List UInt8) (at_ turn : Nat) (h0 : turn ≠ 0) (h1 : turn < 4294967296) (hin : ∀ k, k < 32 → turn.testBit k = true → (at_ + k) / 8 < b.length) : sum b ≠ sum (tearTo b at_ turn 32) := by
  intro h
  have he := sum_tear b (tearTo b at_ turn 32) at_ (tearTo_length _ _ _ _).symm (fun i hi => by rw [tear_get, if_neg (by omega)]) h
  obtain ⟨k, hk, ht⟩ := turn_bit turn h0 h1
  have hg := tear_get b at_ turn 32 (at_ + k)
  rw [← he, if_pos ⟨by omega, by omega, by rw [Nat.add_sub_cancel_left]; exact ht⟩] at hg
  have hl := hin k hk ht
  have hb := allBits_get b ((at_ + k) / 8) ((at_ + k) % 8) (by omega)
  rw [show 8 * ((at_ + k) / 8) + (at_ + k) % 8 = at_ + k from by omega, List.getElem?_eq_getElem hl] at hb
  rw [hb] at hg
  simp only [Option.map_some, Option.some.injEq] at hg
  omega
end Go.Proofs.Ytkhhmpcpcdadaaa.Pl
