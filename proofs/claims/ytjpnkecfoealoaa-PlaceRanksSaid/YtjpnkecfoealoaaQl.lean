import Derived.Test.YtjpnkecfoealoaaQj
namespace Go.Proofs.Ytjpnkecfoealoaa
set_option linter.unusedVariables false
/-- put into a sorted row -/
def insR (b : Nat → Nat → Bool) (i : Nat) : List Nat → List Nat
  | [] => [i]
  | o :: r => if b i o then i :: o :: r else o :: insR b i r
theorem insR_perm (b : Nat → Nat → Bool) (i : Nat) : ∀ l, (insR b i l).Perm (i :: l)
  | [] => List.Perm.refl _
  | o :: r => by
    unfold insR
    split
    · exact List.Perm.refl _
    · exact ((insR_perm b i r).cons o).trans (List.Perm.swap i o r)
theorem insR_sorted {b : Nat → Nat → Bool} (hi : ∀ i, b i i = false) (ht : ∀ i j k, b i j = true → b j k = true → b i k = true) (i : Nat) : ∀ l, l.Pairwise (fun x y => b y x = false) → (insR b i l).Pairwise (fun x y => b y x = false)
  | [], _ => by unfold insR; simp
  | o :: r, h => by
    have hc := List.pairwise_cons.1 h
    unfold insR
    split
    · rename_i hb
      rw [List.pairwise_cons]
      refine ⟨fun y hy => ?_, h⟩
      have nb : ∀ y, b y o = false → b y i = false := fun y hy => by
        rw [← Bool.not_eq_true]
        intro h2
        rw [ht y i o h2 hb] at hy
        cases hy
      rcases List.mem_cons.1 hy with rfl | hy
      · rw [← Bool.not_eq_true]
        intro h2
        have := ht _ _ _ hb h2
        rw [hi] at this
        cases this
      · exact nb y (hc.1 y hy)
    · rename_i hb
      rw [List.pairwise_cons]
      refine ⟨fun y hy => ?_, insR_sorted hi ht i r hc.2⟩
      have := (insR_perm b i r).mem_iff.1 hy
      rcases List.mem_cons.1 this with rfl | hy
      · exact Bool.eq_false_iff.2 hb
      · exact hc.1 y hy
/-- a step of the inner loop: i is not ahead of the next -/
theorem insR_skip {b : Nat → Nat → Bool} {i : Nat} {out : List Nat} {k o : Nat} (ho : out[k]? = some o) (hb : b i o = false) (h : insR b i out = out.take k ++ insR b i (out.drop k)) : insR b i out = out.take (k + 1) ++ insR b i (out.drop (k + 1)) := by
  have hl := (List.getElem?_eq_some_iff.1 ho)
  obtain ⟨hl, he⟩ := hl
  have e1 : out.drop k = o :: out.drop (k + 1) := by rw [← he, List.drop_eq_getElem_cons hl]
  rw [h, e1, insR, if_neg (by rw [hb]; decide), List.take_add_one, ho]
  simp
theorem insR_here {b : Nat → Nat → Bool} {i : Nat} {out : List Nat} {k o : Nat} (ho : out[k]? = some o) (hb : b i o = true) (h : insR b i out = out.take k ++ insR b i (out.drop k)) : out.take k ++ [i] ++ [o] ++ out.drop (k + 1) = insR b i out := by
  have hl := (List.getElem?_eq_some_iff.1 ho)
  obtain ⟨hl, he⟩ := hl
  have e1 : out.drop k = o :: out.drop (k + 1) := by rw [← he, List.drop_eq_getElem_cons hl]
  rw [h, e1, insR, if_pos hb]
  simp
theorem insR_on {out own ins : List Nat} {k o : Nat} (ho : out[k]? = some o) (h : own ++ out.drop k = ins) : own ++ [o] ++ out.drop (k + 1) = ins := by
  have hl := (List.getElem?_eq_some_iff.1 ho)
  obtain ⟨hl, he⟩ := hl
  rw [← h, List.drop_eq_getElem_cons hl, he]
  simp
end Go.Proofs.Ytjpnkecfoealoaa
