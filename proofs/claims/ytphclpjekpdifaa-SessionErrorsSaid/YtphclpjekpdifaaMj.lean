import Derived.Test.YtphclpjekpdifaaMb
namespace Go.Proofs.Ytphclpjekpdifaa.Wi
open Go.RowKit Pl
set_option maxRecDepth 20000
set_option linter.unusedVariables false
theorem ok_nIt (n : Int) : (nIt n).good = true := by simp [nIt, It.good, goods, form, zero_size]
theorem errOf_of {t : It} (h1 : t.cnt ≤ 4096) (h2 : t.dep ≤ 12) (h3 : t.long = false) (h4 : t.good = true) : errOf t = 0 := by
  have : fits t 0 1 = true := by unfold fits; rw [h3]; simp; omega
  unfold errOf
  rw [if_pos this, if_pos h4]
theorem errOf_rIt (o : Int) (s : ByteArray) (a b c n : Int) (hs : s.size ≤ 4096) : errOf (rIt o s a b c n) = 0 := by
  refine errOf_of ?_ ?_ ?_ ?_
  · simp [rIt, vIt, nIt, sIt, It.cnt, cnts]
  · simp [rIt, vIt, nIt, sIt, It.dep, deps]
  · simp [rIt, vIt, nIt, sIt, It.long, longs]; omega
  · simp [rIt, vIt, nIt, sIt, It.good, goods, form, zero_size]
theorem enc_small {t : It} (h : errOf t = 0) : t.enc.length ≤ 17203200 := by
  obtain ⟨h1, h2⟩ := errOf_zero h
  unfold fits at h1
  simp at h1
  have := enc_le t h2 h1.2
  omega
end Go.Proofs.Ytphclpjekpdifaa.Wi
