import Derived.Test.YtebacdegjmcnlaaGreatMb
namespace Go.Proofs.YtebacdegjmcnlaaGreat
open Go.RowKit Pl
set_option linter.unusedVariables false
theorem wd_le : ∀ (n : Nat) (l : List UInt8), l.length ≤ n → Nm.Pl.wd (Nm.Pl.runes l) ≤ 4 * (Nm.Pl.runes l).length := by
  intro n
  induction n with
  | zero => intro l h; obtain rfl := List.eq_nil_of_length_eq_zero (Nat.le_zero.1 h); simp [Nm.Pl.runes_nil, Nm.Pl.wd]
  | succ n ih =>
    intro l h
    by_cases hl : l = []
    · subst hl; simp [Nm.Pl.runes_nil, Nm.Pl.wd]
    · obtain ⟨h1, h2, h3, _⟩ := Nm.Pl.rune_bd l hl
      rw [Nm.Pl.runes_cons hl]
      have := ih (l.drop (Nm.Pl.rune l).2.1) (by rw [List.length_drop]; omega)
      simp only [Nm.Pl.wd, List.length_cons]
      omega
theorem may_len {l : List UInt8} (h : Nm.may l = true) : l.length ≤ 96 := by
  rw [Nm.may_iff] at h
  have := wd_le l.length l (Nat.le_refl _)
  rw [Nm.Pl.wd_all] at this
  omega
theorem ok_nIt (n : Int) : (nIt n).good = true := by simp [nIt, It.good, goods, form, zero_size]
theorem errOf_of {t : It} (h1 : t.cnt ≤ 4096) (h2 : t.dep ≤ 12) (h3 : t.long = false) (h4 : t.good = true) : errOf t = 0 := by
  have : fits t 0 1 = true := by unfold fits; rw [h3]; simp; omega
  unfold errOf
  rw [if_pos this, if_pos h4]
theorem errOf_cIt (o : Int) (s t : ByteArray) (a b c n : Int) (hs : s.size ≤ 4096) (ht : t.size ≤ 4096) : errOf (cIt o s t a b c n) = 0 := by
  refine errOf_of ?_ ?_ ?_ ?_
  · simp [cIt, vIt, nIt, sIt, It.cnt, cnts]
  · simp [cIt, vIt, nIt, sIt, It.dep, deps]
  · simp [cIt, vIt, nIt, sIt, It.long, longs]; omega
  · simp [cIt, vIt, nIt, sIt, It.good, goods, form, zero_size]
theorem errOf_rIt (o : Int) (s : ByteArray) (a b c n : Int) (hs : s.size ≤ 4096) : errOf (rIt o s a b c n) = 0 := by
  refine errOf_of ?_ ?_ ?_ ?_
  · simp [rIt, vIt, nIt, sIt, It.cnt, cnts]
  · simp [rIt, vIt, nIt, sIt, It.dep, deps]
  · simp [rIt, vIt, nIt, sIt, It.long, longs]; omega
  · simp [rIt, vIt, nIt, sIt, It.good, goods, form, zero_size]
theorem enc_small {t : It} (h : errOf t = 0) : t.enc.length ≤ 17203200 := by
  obtain ⟨h1, h2⟩ := errOf_zero h
  unfold fits at h1
  simp at h1
  have := enc_le t h2 h1.2
  omega
end Go.Proofs.YtebacdegjmcnlaaGreat
