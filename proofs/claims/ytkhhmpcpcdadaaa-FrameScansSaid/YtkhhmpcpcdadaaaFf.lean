/- Plain: a bit that is turned in a record. No program. -/
import Derived.Test.YtkhhmpcpcdadaaaFp
import Derived.Test.YtkhhmpcpcdadaaaPt
namespace Go.Proofs.Ytkhhmpcpcdadaaa.Fr
set_option linter.unusedVariables false

theorem turn_ne (x : UInt8) (r : Nat) (hr : r < 8) : x ^^^ UInt8.ofNat (2 ^ r) ≠ x := by
  intro h
  have hp : 2 ^ r < 256 := Nat.pow_lt_pow_right (by omega) (show r < 8 from hr)
  have h0 : 0 < 2 ^ r := Nat.two_pow_pos r
  have e := congrArg (fun z => x ^^^ z) h
  simp only [← UInt8.xor_assoc, UInt8.xor_self, UInt8.zero_xor] at e
  have := congrArg UInt8.toNat e
  rw [UInt8.toNat_ofNat', Nat.mod_eq_of_lt hp] at this
  simp at this
theorem set_ne {l : List UInt8} {q : Nat} {x y : UInt8} (hx : l[q]? = some x) (hy : y ≠ x) : l.set q y ≠ l := fun e => by
  have hq := (List.getElem?_eq_some_iff.1 hx).1
  have := congrArg (fun z => z[q]?) e
  rw [List.getElem?_set, if_pos rfl, if_pos hq, hx] at this
  injection this with this
  exact hy this
/-- a turned bit turns the sum -/
theorem sum_flip (b : List UInt8) (q r : Nat) (x : UInt8) (hr : r < 8) (hx : b[q]? = some x) : Pl.sum (b.set q (x ^^^ UInt8.ofNat (2 ^ r))) ≠ Pl.sum b := fun h => by
  have hf : Pl.flip b (8 * q + r) = b.set q (x ^^^ UInt8.ofNat (2 ^ r)) := by
    unfold Pl.flip
    rw [show (8 * q + r) / 8 = q by omega, show (8 * q + r) % 8 = r by omega, List.getD_eq_getElem?_getD, hx, Option.getD_some]
  rw [← hf] at h
  have e := Pl.sum_tear (Pl.flip b (8 * q + r)) b (8 * q + r) (Pl.flip_length _ _) (fun i hi => by
    rw [Pl.flip_get, if_neg (by omega)]) h
  rw [hf] at e
  exact set_ne hx (turn_ne x r hr) e
theorem first_of {R rest : List UInt8} {n : Nat} (hR : R.length = 8 + n) (hl : num ((R.take 8).drop 4) = n) (hs : num (R.take 4) ≠ Pl.sum (R.drop 4)) : first (R ++ rest) = none := by
  have e8 : (R ++ rest).take 8 = R.take 8 := List.take_append_of_le_length (by omega)
  have e4 : (R ++ rest).take 4 = R.take 4 := List.take_append_of_le_length (by omega)
  have ln : lenOf (R ++ rest) = n := by unfold lenOf; rw [e8, hl]
  have en : (R ++ rest).take (8 + n) = R := by rw [← hR, List.take_append_of_le_length (by omega), List.take_of_length_le (by omega)]
  rw [first_eq, ln, en, e4, if_neg hs]
  split
  · rfl
  · split <;> rfl
theorem rcd_take (l : List UInt8) : (rcd l).take 4 = be (Pl.sum (body l)) := by
  unfold rcd; rw [List.take_append_of_le_length (by rw [be_length]; omega), List.take_of_length_le (by rw [be_length]; omega)]
theorem rcd_drop (l : List UInt8) : (rcd l).drop 4 = body l := by
  unfold rcd; rw [List.drop_append_of_le_length (by simp [be_length]), List.drop_of_length_le (by simp [be_length]), List.nil_append]
theorem rcd_len (l : List UInt8) : ((rcd l).take 8).drop 4 = be l.length := by
  rw [List.drop_take, rcd_drop]
  unfold body
  rw [List.take_append_of_le_length (by simp [be_length]), List.take_of_length_le (by simp [be_length])]
theorem first_flip (l rest : List UInt8) (hl : l.length ≤ 4096) (q r : Nat) (x : UInt8) (hr : r < 8) (hq : q < 4 ∨ 8 ≤ q) (hx : (rcd l)[q]? = some x) : first ((rcd l).set q (x ^^^ UInt8.ofNat (2 ^ r)) ++ rest) = none := by
  refine first_of (n := l.length) (by rw [List.length_set, rcd_length]) ?_ ?_
  · rw [List.drop_take, List.drop_set]
    rcases hq with hq | hq
    · rw [if_pos (by omega), rcd_drop]
      unfold body
      rw [List.take_append_of_le_length (by simp [be_length]), List.take_of_length_le (by simp [be_length]), num_be _ (by omega)]
    · rw [if_neg (by omega), List.take_set_of_le (by omega), rcd_drop]
      unfold body
      rw [List.take_append_of_le_length (by simp [be_length]), List.take_of_length_le (by simp [be_length]), num_be _ (by omega)]
  · rcases hq with hq | hq
    · rw [List.drop_set, if_pos (by omega), rcd_drop]
      intro e
      have h1 := be_num (((rcd l).set q (x ^^^ UInt8.ofNat (2 ^ r))).take 4) (by rw [List.length_take, List.length_set, rcd_length]; omega)
      rw [e, ← rcd_take, List.take_set] at h1
      have hx4 : ((rcd l).take 4)[q]? = some x := by rw [List.getElem?_take, if_pos hq]; exact hx
      exact set_ne hx4 (turn_ne x r hr) h1.symm
    · rw [List.take_set_of_le (by omega), rcd_take, num_be (Pl.sum (body l)) (Pl.more_lt _ _), List.drop_set, if_neg (by omega), rcd_drop]
      have hxb : (body l)[q - 4]? = some x := by rw [← rcd_drop, List.getElem?_drop, show 4 + (q - 4) = q by omega]; exact hx
      exact fun h => sum_flip _ _ r x hr hxb h.symm
/-- a bit turned in a record's sum or payload -/
theorem scan_flip (ls : List (List UInt8)) (ok : Ok ls) (k : Nat) (l : List UInt8) (hl : ls[k]? = some l) (q r : Nat) (x : UInt8) (hr : r < 8) (hq : q < 4 ∨ (8 ≤ q ∧ q < 8 + l.length))
    (hx : (flat ls)[(flat (ls.take k)).length + q]? = some x) : scan ((flat ls).set ((flat (ls.take k)).length + q) (x ^^^ UInt8.ofNat (2 ^ r))) = (ls.take k, (flat (ls.take k)).length) := by
  obtain ⟨hk, rfl⟩ := List.getElem?_eq_some_iff.1 hl
  have e : flat ls = flat (ls.take k) ++ (rcd ls[k] ++ flat (ls.drop (k + 1))) := by
    conv => lhs; rw [← List.take_append_drop k ls, List.drop_eq_getElem_cons hk]
    rw [flat_append, flat_cons]
  have hql : q < (rcd ls[k]).length := by rw [rcd_length]; omega
  rw [e, List.getElem?_append_right (by omega), Nat.add_sub_cancel_left, List.getElem?_append_left hql] at hx
  rw [e, List.set_append_right _ _ (by omega), Nat.add_sub_cancel_left, List.set_append_left _ _ hql, scan_flat _ (fun p hp => ok p (List.mem_of_mem_take hp)), scan_none (first_flip _ _ (ok _ (List.mem_of_getElem? hl)) q r x hr (by omega) hx)]
  simp
end Go.Proofs.Ytkhhmpcpcdadaaa.Fr
