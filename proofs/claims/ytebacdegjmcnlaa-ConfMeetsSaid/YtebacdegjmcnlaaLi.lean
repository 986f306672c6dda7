/-
  The list of a set's members, as the program makes it. No condition.
-/
import Derived.Test.YtebacdegjmcnlaaBi
namespace Go.Proofs.Ytebacdegjmcnlaa
set_option maxRecDepth 20000
open Go.RowKit
set_option linter.unusedVariables false
def ints (L : List Nat) : List Int := L.map fun i : Nat => (i : Int)
/-- a list of numbers, new since w -/
def LsP (L : List Nat) (w : World) (e : Ending) (w' : World) : Prop :=
  ∃ A cap, e = .returned (.slice A L.length cap) ∧ Rd DI w' (fun k => w.heap.size ≤ k) A (ints L) ∧ L.length ≤ cap ∧ cap ≤ 9223372036854775807 ∧ Below w.heap.size w w'
def numOf : Value → Int | .int _ n => n | _ => 0
def upTo (m : Int) (k : Nat) : List Nat := (List.range k).filter (CP.bit m)
theorem upTo_succ (m : Int) (k : Nat) : upTo m (k + 1) = upTo m k ++ (if CP.bit m k then [k] else []) := by
  unfold upTo
  rw [List.range_succ, List.filter_append]
  congr 1
  cases h : CP.bit m k <;> simp [h]
theorem upTo_le (m : Int) (k : Nat) : (upTo m k).length ≤ k := by
  have := List.length_filter_le (CP.bit m) (List.range k)
  rw [List.length_range] at this
  exact this
theorem ints_length (L : List Nat) : (ints L).length = L.length := by unfold ints; rw [List.length_map]
set_option maxHeartbeats 1000000 in
theorem confList_any (m : Int) (w : World) : Calls Try.prog 12 #[.int .i64 m] w (LsP (CP.lst m) w) := by
  have HM : Hid (∀ X, Calls Try.prog 9 #[.int .i64 m] X (RetBelow (.bool (decide (CP.May m))) X)) := Lib.hid fun X => confMay_any m X
  by_cases h : CP.May m
  · have e : CP.lst m = upTo m 7 := by unfold CP.lst; rw [if_pos h]; rfl
    rw [e]
    rw [decide_eq_true h] at HM
    clear h e
    go_enter Try.func12, Try.ntmps12
    go_wp2_with (go_at_call 9; (with_reducible refine (HM.out _).mono ?_); rintro e w1 ⟨rfl, hb1⟩)
    have HB1 := Lib.hid hb1
    clear hb1
    go_loopw [3, 4, 8] (fun v3 v4 v8 wr => ∃ (k : Nat), v8 = .int .i64 (k : Nat) ∧ k ≤ 7 ∧ Hid (OwnS DI wr (fun q => w.heap.size ≤ q) v3 (ints (upTo m k))) ∧ Hid (Below w.heap.size w wr)) (fun _ _ v8 _ => 7 - (numOf v8).toNat)
    case atStart => exact ⟨0, rfl, by omega, Lib.hid (OwnS.nil DI w1 _ : OwnS DI w1 (fun q => w.heap.size ≤ q) (.slice none 0 0) (ints (upTo m 0))), HB1⟩
    case round =>
      obtain ⟨k, rfl, hk, ho, hf⟩ := hrel
      by_cases hk2 : (k : Int) < 7
      · have hk3 : k < 7 := by omega
        have hx : bits .and .i64 (m / 2 ^ k) 1 = m / ((2 ^ k : Nat) : Int) % 2 := by rw [i64_and1]; push_cast; rfl
        cases hbit : CP.bit m k with
        | true =>
          have hx2 : bits .and .i64 (m / 2 ^ k) 1 = 1 := by rw [hx]; unfold CP.bit at hbit; simpa using hbit
          clear hx
          have HB2 : Hid (Below w.heap.size w (wr.alloc (.cells #[.int .i64 (k : Nat)] 3))) := Lib.hid (hf.out.alloc hf.out.size _)
          have HO : Hid (OwnS DI (wr.alloc (.cells #[.int .i64 (k : Nat)] 3)) (fun q => w.heap.size ≤ q) u3 (ints (upTo m k))) := Lib.hid (ho.out.below ((Below.refl _ wr).alloc (Nat.le_refl _) _))
          have HR : Hid (Rd DI (wr.alloc (.cells #[.int .i64 (k : Nat)] 3)) (fun q => q = wr.heap.size) (some ⟨wr.heap.size, 0, none⟩) [(k : Int)]) := Lib.hid fun _ => ⟨_, 0, rfl, rfl, by simp, fun i x hx q u hu => by
            match i, q, hx, hu with
            | 0, 0, hx, hu => obtain rfl : (k : Int) = x := by simpa using hx
                              obtain rfl : Value.int .i64 (k : Nat) = u := by simpa [DI] using hu
                              simp
            | 0, q + 1, hx, hu => simp [DI] at hu
            | i + 1, _, hx, _ => simp at hx⟩
          have HS : Hid ((ints (upTo m k)).length + 1 ≤ 1000000) := Lib.hid (by have := upTo_le m k; rw [ints_length]; omega)
          have HU : Hid (ints (upTo m k) ++ [(k : Int)] = ints (upTo m (k + 1))) := Lib.hid (by rw [upTo_succ, hbit]; simp [ints])
          clear ho hf
          go_wp2_with (at_builtin; refine wp_appO DI rfl _ _ rfl (fun q => w.heap.size ≤ q) (fun q => q = wr.heap.size) _ (ints (upTo m k)) rfl HO.out (some ⟨wr.heap.size, 0, none⟩) 1 1 [(k : Int)] rfl (fun h => by cases h) HR.out rfl (Nat.le_refl _) HS.out ?_)
          intro v' w2 ho2 hf2 _
          rw [HU.out] at ho2
          have HO2 : Hid (OwnS DI w2 (fun q => w.heap.size ≤ q) v' (ints (upTo m (k + 1)))) := Lib.hid (ho2.mono fun q _ hq => hq.elim id fun hq => by have := HB2.out.size; omega)
          have HF2 : Hid (Below w.heap.size w w2) := Lib.hid (HB2.out.trans (hf2.below (HB2.out.size) fun q hq => hq))
          clear ho2 hf2 HO HR HB2 HS HU
          go_wp2_with fail
          go_roundw
          case rel => exact ⟨k + 1, rfl, by omega, HO2, HF2⟩
          case measure => simp [numOf]; omega
        | false =>
          have hx2 : bits .and .i64 (m / 2 ^ k) 1 = 0 := by
            rw [hx]
            unfold CP.bit at hbit
            rcases (show m / ((2 ^ k : Nat) : Int) % 2 = 0 ∨ m / ((2 ^ k : Nat) : Int) % 2 = 1 from by generalize m / ((2 ^ k : Nat) : Int) = z; omega) with h | h
            · exact h
            · rw [h] at hbit; cases hbit
          clear hx
          have HU : Hid (ints (upTo m k) = ints (upTo m (k + 1))) := Lib.hid (by rw [upTo_succ, hbit]; simp [ints])
          go_wp2_with fail
          go_roundw
          case rel => exact ⟨k + 1, rfl, by omega, Lib.hid (by rw [← HU.out]; exact ho.out), hf⟩
          case measure => simp [numOf]; omega
      · have hk3 : k = 7 := by omega
        subst hk3
        go_wp2_with fail
        obtain ⟨A, cap, rfl, h1, h2, h3, _⟩ := ho.out.form
        go_ret
        rw [ints_length] at *
        exact ⟨A, cap, rfl, h1, h2, h3, hf.out⟩
  · have e : CP.lst m = [] := by unfold CP.lst; rw [if_neg h]
    rw [e]
    rw [decide_eq_false h] at HM
    clear h e
    go_enter Try.func12, Try.ntmps12
    go_wp2_with (go_at_call 9; (with_reducible refine (HM.out _).mono ?_); rintro e w1 ⟨rfl, hb1⟩)
    go_ret
    exact ⟨none, 0, rfl, Rd.nil _ _ _ _, Nat.le_refl _, by omega, hb1⟩
end Go.Proofs.Ytebacdegjmcnlaa
