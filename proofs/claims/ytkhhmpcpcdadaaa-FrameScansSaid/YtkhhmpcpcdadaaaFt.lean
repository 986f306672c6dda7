/- Plain: torn records. No program. -/
import Derived.Test.YtkhhmpcpcdadaaaFp
namespace Go.Proofs.Ytkhhmpcpcdadaaa.Fr
set_option linter.unusedVariables false

theorem scan_drop : ∀ (i : Nat) (T : List UInt8), i ≤ (scan T).1.length → (scan T).1.drop i = (scan (T.drop (flat ((scan T).1.take i)).length)).1 := by
  intro i
  induction i with
  | zero => intro T _; simp [flat_nil]
  | succ i ih =>
    intro T h
    cases hf : first T with
    | none => rw [scan_none hf] at h; simp at h
    | some p =>
      have e := scan_some hf
      rw [e] at h ⊢
      dsimp only at h ⊢
      rw [List.length_cons] at h
      rw [List.drop_succ_cons, List.take_succ_cons, flat_cons, List.length_append, rcd_length]
      have := ih (T.drop (8 + p.length)) (by omega)
      rw [List.drop_drop] at this
      exact this
/-- what is whole in the torn is scanned -/
theorem tear_whole {ls : List (List UInt8)} (ok : Ok ls) {T : List UInt8} {k i : Nat} (hT : T.take k = (flat ls).take k) (hi : i ≤ (scan T).1.length) (he : (scan T).1.take i = ls.take i) {l : List UInt8} (hl : ls[i]? = some l)
    (hk : (flat (ls.take i)).length + (8 + l.length) ≤ k) : (scan T).1[i]? = some l := by
  obtain ⟨hil, rfl⟩ := List.getElem?_eq_some_iff.1 hl
  have e : flat ls = flat (ls.take i) ++ (rcd ls[i] ++ flat (ls.drop (i + 1))) := by
    conv => lhs; rw [← List.take_append_drop i ls, List.drop_eq_getElem_cons hil]
    rw [flat_append, flat_cons]
  have hr := rcd_length ls[i]
  have e2 : (T.drop (flat (ls.take i)).length).take (8 + ls[i].length) = rcd ls[i] := by
    have h1 : ∀ X : List UInt8, (X.drop (flat (ls.take i)).length).take (8 + ls[i].length) = ((X.take k).drop (flat (ls.take i)).length).take (8 + ls[i].length) := fun X => by
      rw [List.drop_take, List.take_take, Nat.min_eq_left (by omega)]
    rw [h1, hT, ← h1, e, List.drop_append_of_le_length (by omega), List.drop_of_length_le (by omega), List.nil_append, ← hr, List.take_append_of_le_length (by omega), List.take_of_length_le (by omega)]
  have e3 : first (T.drop (flat (ls.take i)).length) = some ls[i] := by
    rw [← List.take_append_drop (8 + ls[i].length) (T.drop (flat (ls.take i)).length), e2]
    exact first_rcd _ _ (ok _ (List.mem_of_getElem? hl))
  have e4 := scan_drop i T hi
  rw [he, scan_some e3] at e4
  have e5 := congrArg (fun z => z[0]?) e4
  simp only [List.getElem?_drop, List.getElem?_cons_zero, Nat.add_zero] at e5
  exact e5
theorem take_step {ms ls : List (List UInt8)} {i : Nat} {l : List UInt8} (he : ms.take i = ls.take i) (h1 : ms[i]? = some l) (h2 : ls[i]? = some l) : ms.take (i + 1) = ls.take (i + 1) := by
  obtain ⟨a, e1⟩ := List.getElem?_eq_some_iff.1 h1
  obtain ⟨b, e2⟩ := List.getElem?_eq_some_iff.1 h2
  rw [List.take_succ_eq_append_getElem a, List.take_succ_eq_append_getElem b, he, e1, e2]
theorem scan_rows2 : ∀ (n : Nat) (b : List UInt8), b.length ≤ n → 8 * (scan b).1.length ≤ (scan b).2 := by
  intro n
  induction n with
  | zero => intro b h; rw [scan_short b (by omega)]; simp
  | succ n ih =>
    intro b h
    cases hf : first b with
    | none => rw [scan_none hf]; simp
    | some p =>
      have hl := (first_len hf).2.2
      rw [scan_some hf]
      have := ih (b.drop (8 + p.length)) (by rw [List.length_drop]; omega)
      dsimp only
      rw [List.length_cons]
      omega
end Go.Proofs.Ytkhhmpcpcdadaaa.Fr
