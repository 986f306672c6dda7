/-
  Orders: which data are none, plainly. No condition.
-/
import Derived.Test.YtebacdegjmcnlaaGreatOc
namespace Go.Proofs.YtebacdegjmcnlaaGreat
set_option maxRecDepth 20000
open Go.RowKit Pl
set_option linter.unusedVariables false
theorem oIt_dec (k i q n : Int) (x : ByteArray) (hk : InR k) (hi : InR i) (hq : InR q) (hn : InR n) (hx : x.size ≤ 4096) : dec (oIt k i q n x).enc = some (oIt k i q n x) := by
  refine (dec_iff _ _).2 ⟨?_, ?_, ?_, rfl⟩
  · unfold InR at hk hi hq hn
    simp [oIt, nIt, sIt, It.ok, oks, form, zero_size]
    omega
  · simp [oIt, nIt, sIt, It.dep, deps]
  · simp [oIt, nIt, sIt, It.cnt, cnts]
theorem mayO_kind {k i q n o : Int} {s t : ByteArray} {a b c m : Int} (h : mayO k i q n o s t a b c m = true) : 0 ≤ k ∧ k ≤ 5 := by
  unfold mayO at h
  by_cases h0 : k = 0
  · omega
  rw [if_neg h0] at h
  by_cases h1 : k = 1 ∨ k = 3
  · omega
  rw [if_neg h1] at h
  by_cases h2 : k = 2
  · omega
  rw [if_neg h2] at h
  by_cases h4 : k = 4
  · omega
  rw [if_neg h4] at h
  by_cases h5 : k = 5
  · omega
  rw [if_neg h5] at h
  cases h
theorem str_inj {a b : List UInt8} (h : Nm.str a = Nm.str b) : a = b := by
  have := congrArg (fun x : ByteArray => x.data.toList) h
  simpa [Nm.str] using this
theorem okO_is {l : List UInt8} (h : okO l = true) : (0 ≤ (rdO l).k ∧ (rdO l).k ≤ 5) ∧ (((rdO l).k = 0 ∧ l = []) ∨ ((rdO l).k ≠ 0 ∧ ∃ x, dec l = some (oIt (rdO l).k (rdO l).i (rdO l).q (rdO l).n x))) := by
  have hf := rdO_fine l
  unfold okO at h
  generalize rdO l = x at *
  simp only [Bool.and_eq_true, beq_iff_eq] at h
  obtain ⟨h1, h2⟩ := h
  have h2 := beq_ba.1 h2
  have hm : x.may = true := by
    unfold Or.err errO at h1
    unfold Or.may
    split at h1
    · assumption
    · cases h1
  unfold Or.may at hm
  refine ⟨mayO_kind hm, ?_⟩
  unfold Or.enc encO at h2
  rw [if_pos hm] at h2
  by_cases h0 : x.k = 0
  · rw [if_pos h0] at h2
    left
    exact ⟨h0, (str_inj (h2 : Nm.str [] = Nm.str l)).symm⟩
  · rw [if_neg h0] at h2
    right
    refine ⟨h0, encC x.o x.s x.t x.a x.b x.c x.m, ?_⟩
    rw [← str_inj h2]
    exact oIt_dec _ _ _ _ _ hf.k hf.i hf.q hf.n (Nat.le_trans (encC_small _ _ _ _ _ _ _) (by decide))
theorem ok_none {l : List UInt8} (hl : l ≠ []) (h : dec l = none) : okO l = false := by
  rw [Bool.eq_false_iff]
  intro hk
  rcases (okO_is hk).2 with ⟨_, e⟩ | ⟨_, x, e⟩
  · exact hl e
  · rw [h] at e; cases e
theorem ok_len {l : List UInt8} {t : It} (hl : l ≠ []) (h : dec l = some t) (h5 : (elsP t).length ≠ 5) : okO l = false := by
  rw [Bool.eq_false_iff]
  intro hk
  rcases (okO_is hk).2 with ⟨_, e⟩ | ⟨_, x, e⟩
  · exact hl e
  · rw [h] at e
    obtain rfl := Option.some.inj e
    exact h5 rfl
theorem ok_kind {l : List UInt8} (hl : l ≠ []) (h : ¬ (1 ≤ rdN l 0 ∧ rdN l 0 ≤ 5)) : okO l = false := by
  rw [Bool.eq_false_iff]
  intro hk
  obtain ⟨⟨h1, h2⟩, h3⟩ := okO_is hk
  have e : (rdO l).k = rdN l 0 := rfl
  rcases h3 with ⟨_, e⟩ | ⟨h0, _⟩
  · exact hl e
  · rw [e] at h0 h1 h2
    exact h ⟨by omega, h2⟩
theorem ok_empty : okO [] = true := by decide +kernel
theorem rd_empty : rdO [] = zO := rfl
theorem part_at {t : It} {j : Nat} {x : It} (h : (elsP t)[j]? = some x) : part t j = x := by unfold part; rw [h]; rfl
end Go.Proofs.YtebacdegjmcnlaaGreat
