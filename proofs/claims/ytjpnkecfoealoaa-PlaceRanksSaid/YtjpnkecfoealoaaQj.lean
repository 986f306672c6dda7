import Derived.Test.YtjpnkecfoealoaaQg
import Derived.Test.YtjpnkecfoealoaaNc
namespace Go.Proofs.Ytjpnkecfoealoaa
set_option maxRecDepth 20000
set_option linter.unusedVariables false
open Go.Proofs.Ytjpnkecfoealoaa.Vc (fitB)
/-- two rows with the same members, each sorted, no member twice, are one -/
theorem sorted_one {r : Nat → Nat → Bool} (ht : ∀ i j, r i j = false → r j i = false → i = j) : ∀ (a b : List Nat), a.Perm b → a.Pairwise (fun i j => r j i = false) → b.Pairwise (fun i j => r j i = false) → a = b
  | [], b, h, _, _ => (List.Perm.eq_nil h.symm).symm
  | x :: a, b, h, ha, hb => by
    match b, h, hb with
    | [], h, _ => exact absurd (List.Perm.eq_nil h) (by simp)
    | y :: b, h, hb =>
      have hx := List.pairwise_cons.1 ha
      have hy := List.pairwise_cons.1 hb
      have e : x = y := by
        have h1 : x ∈ y :: b := h.mem_iff.1 (by simp)
        have h2 : y ∈ x :: a := h.mem_iff.2 (by simp)
        rcases List.mem_cons.1 h1 with h1 | h1
        · exact h1
        · rcases List.mem_cons.1 h2 with h2 | h2
          · exact h2.symm
          · exact ht x y (hy.1 x h1) (hx.1 y h2)
      subst e
      rw [sorted_one ht a b (List.Perm.cons_inv h) hx.2 hy.2]
/-- Rank's answer is one. -/
theorem rank_one {L : List Nd} {p q r : Int} {R R' : List Nat} (h : RankOf L p q r R) (h' : RankOf L p q r R') : R = R' :=
  sorted_one (fun i j => bef_total) R R' (h.1.trans h'.1.symm) h.2 h'.2
theorem takes_okay {n : Nd} {p q r : Int} (h : ntakes n p q r = true) : Nm.Pl.okay n.s = true := by
  unfold ntakes at h
  simp only [Bool.and_eq_true] at h
  have hm := h.2.2.1
  unfold nmay at hm
  simp only [Bool.and_eq_true] at hm
  have := (Nm.may_iff n.s).1 hm.1
  exact Nm.alw_okay n.s this.2.2.1
/-- unlike names -/
def Unlike (L : List Nd) : Prop := ∀ (i j : Nat) (n m : Nd), L[i]? = some n → L[j]? = some m → n.s = m.s → i = j
theorem rev_get {L : List Nd} {i : Nat} (h : i < L.length) : L.reverse[i]? = L[L.length - 1 - i]? := by
  rw [List.getElem?_reverse h]
theorem cand_rev {L : List Nd} {p q r : Int} {i : Nat} (h : i < L.length) : i ∈ cand L.reverse p q r L.reverse.length ↔ L.length - 1 - i ∈ cand L p q r L.length := by
  rw [cand_mem, cand_mem, rev_get h]
theorem sc_rev {L : List Nd} {p q r : Int} {i : Nat} (h : i < L.length) : scL L.reverse p q r i = scL L p q r (L.length - 1 - i) := by
  unfold scL; rw [rev_get h]
theorem nm_rev {L : List Nd} {i : Nat} (h : i < L.length) : nmL L.reverse i = nmL L (L.length - 1 - i) := by
  unfold nmL; rw [rev_get h]
theorem bef_rev {L : List Nd} {p q r : Int} (hu : Unlike L) {i j : Nat} (hi : i ∈ cand L p q r L.length) (hj : j ∈ cand L p q r L.length) :
    bef (scL L.reverse p q r) (nmL L.reverse) (L.length - 1 - j) (L.length - 1 - i) = bef (scL L p q r) (nmL L) j i := by
  obtain ⟨n, hn, tn⟩ := cand_mem.1 hi
  obtain ⟨m, hm, tm⟩ := cand_mem.1 hj
  have li := (List.getElem?_eq_some_iff.1 hn).1
  have lj := (List.getElem?_eq_some_iff.1 hm).1
  by_cases e : i = j
  · subst e
    rw [bef_irrefl, bef_irrefl]
  · unfold bef
    rw [sc_rev (by omega), sc_rev (by omega), nm_rev (by omega), nm_rev (by omega), show L.length - 1 - (L.length - 1 - j) = j by omega, show L.length - 1 - (L.length - 1 - i) = i by omega]
    have hne : ¬ Nm.Pl.nums (nmL L j) = Nm.Pl.nums (nmL L i) := by
      intro h
      have h1 : nmL L j = m.s := by unfold nmL; rw [hm]; rfl
      have h2 : nmL L i = n.s := by unfold nmL; rw [hn]; rfl
      rw [h1, h2] at h
      have := Nm.Pl.nums_inj _ _ (takes_okay tm) (takes_okay tn) h
      exact e (hu i j n m hn hm this.symm)
    rw [if_neg hne, if_neg hne]
/-- turned round, the same nodes in the same order -/
theorem rank_rev {L : List Nd} {p q r : Int} {R R' : List Nat} (hu : Unlike L) (h : RankOf L p q r R) (h' : RankOf L.reverse p q r R') : R' = R.map fun i => L.length - 1 - i := by
  refine rank_one h' ⟨?_, ?_⟩
  · have nd : ∀ k, (cand L p q r k).Nodup := fun k => List.Pairwise.filter _ List.nodup_range
    have nd' : ∀ k, (cand L.reverse p q r k).Nodup := fun k => List.Pairwise.filter _ List.nodup_range
    refine (h.1.map _).trans ?_
    rw [List.perm_ext_iff_of_nodup]
    · intro a
      rw [List.mem_map]
      constructor
      · rintro ⟨i, hi, rfl⟩
        have li := cand_lt L p q r L.length i hi
        rw [cand_rev (by omega), show L.length - 1 - (L.length - 1 - i) = i by omega]
        exact hi
      · intro ha
        have la := cand_lt L.reverse p q r _ a ha
        rw [List.length_reverse] at la
        exact ⟨L.length - 1 - a, (cand_rev la).1 ha, by omega⟩
    · rw [List.nodup_iff_pairwise_ne, List.pairwise_map]
      have h1 := nd L.length
      rw [List.nodup_iff_pairwise_ne] at h1
      refine List.Pairwise.imp_of_mem ?_ h1
      intro i j hi hj hne
      have li := cand_lt L p q r L.length i hi
      have lj := cand_lt L p q r L.length j hj
      omega
    · exact nd' _
  · rw [List.pairwise_map]
    refine List.Pairwise.imp_of_mem ?_ h.2
    intro i j hi hj hb
    rw [bef_rev hu (h.1.mem_iff.1 hi) (h.1.mem_iff.1 hj)]
    exact hb
end Go.Proofs.Ytjpnkecfoealoaa
