import Derived.Test.YtipclhklkngamaaRc
namespace Go.Proofs.Ytipclhklkngamaa
open Go.RowKit
set_option linter.unusedVariables false

theorem mod_bit (s : Int) (k : Nat) (hk : k < 64) : (s % 18446744073709551616) / ((2 ^ k : Nat) : Int) % 2 = Net.bit s k := by
  unfold Net.bit
  have hp : ((2 ^ k : Nat) : Int) > 0 := by exact_mod_cast Nat.two_pow_pos k
  obtain ⟨j, hj⟩ : ∃ j, 64 = k + 1 + j := ⟨64 - k - 1, by omega⟩
  have e : (18446744073709551616 : Int) = ((2 ^ k : Nat) : Int) * (2 * ((2 ^ j : Nat) : Int)) := by
    have : (2 ^ 64 : Nat) = 2 ^ k * (2 * 2 ^ j) := by rw [hj, Nat.pow_add, Nat.pow_succ, Nat.mul_assoc]
    have h2 : ((2 ^ 64 : Nat) : Int) = ((2 ^ k * (2 * 2 ^ j) : Nat) : Int) := by rw [this]
    rw [Int.natCast_mul, Int.natCast_mul] at h2
    have h3 : ((2 ^ 64 : Nat) : Int) = 18446744073709551616 := by decide
    rw [← h3, h2]; rfl
  have em := Int.emod_def s 18446744073709551616
  rw [em, e]
  clear em
  generalize ((2 ^ k : Nat) : Int) = p at *
  generalize ((2 ^ j : Nat) : Int) = t at *
  have e2 : s - p * (2 * t) * (s / (p * (2 * t))) = s + p * (-(2 * t * (s / (p * (2 * t))))) := by
    rw [Int.mul_neg, ← Int.mul_assoc, ← Int.mul_assoc, ← Int.mul_assoc, Int.sub_eq_add_neg]
  rw [e2, Int.add_mul_ediv_left _ _ (by omega), Int.mul_assoc, ← Int.mul_neg, Int.add_mul_emod_self_left]
theorem refCells_set (v : Value) (S : List Int) (k : Nat) (x : Int) : (refCells v S).setIfInBounds (1 + k) (.bool (decide (x = 1))) = refCells v (S.set k x) := by
  simp [refCells, Nat.add_comm 1 k, List.map_set]
set_option maxHeartbeats 1000000 in
set_option maxRecDepth 100000 in
theorem rsplit_any {w : World} {B b : Nat} {N : Net} {v : Value} (h : RefAt w B b N v) (s : Int) (s0 : -9223372036854775808 ≤ s) (s1 : s ≤ 9223372036854775807) :
    Calls Try.prog 19 #[.pointer (some ⟨b, 0, none⟩), .int .i64 s] w fun e w' => e = .returned (.tuple #[]) ∧ RTo w w' B b v (N.split s) := by
  have H := Lib.hid h
  have hblt := h.lt
  clear h
  go_enter Try.func19, Try.ntmps19
  go_wp2_with fail
  go_loopw [4, 5] (fun mV iV wr => ∃ (k : Nat) (m : Int), mV = .int .u64 m ∧ iV = .int .i64 (k : Nat) ∧ k ≤ 32 ∧ Hid (m = (s % 18446744073709551616) / ((2 ^ k : Nat) : Int)) ∧ Hid (wr.heap[b]? = some (.cells (refCells v (sidesAt s N.s k)) 30 (0, 0))) ∧ Hid (Fr (fun i => i = b) w wr)) (fun _ iV _ => 32 - (numOf iV).toNat)
  case atStart =>
    refine ⟨0, _, rfl, rfl, by omega, Lib.hid ?_, Lib.hid H.out.box, Lib.hid (Fr.refl _ w)⟩
    rw [IntKind.wrap_u64]
    simp
  case round =>
    obtain ⟨k, m, rfl, rfl, hk, hm, hb, hf⟩ := hrel
    have hpos : ((2 ^ k : Nat) : Int) > 0 := by exact_mod_cast Nat.two_pow_pos k
    have hm0 : 0 ≤ m := by rw [hm.out]; exact Int.ediv_nonneg (by omega) (by omega)
    have hm1 : m < 18446744073709551616 := by
      rw [hm.out]
      have h1 := Int.ediv_le_self ((2 ^ k : Nat) : Int) (show 0 ≤ s % 18446744073709551616 by omega)
      have h2 : s % 18446744073709551616 < 18446744073709551616 := Int.emod_lt_of_pos s (by decide)
      omega
    by_cases hk2 : (k : Int) < 32
    · have hk3 : k < 32 := by omega
      obtain ⟨u, c1⟩ : ∃ u, wr.cell? ⟨b, 1 + k, none⟩ = some u := by
        rw [Lib.cell_of_heap hb.out]
        exact ⟨_, Array.getElem?_eq_getElem (by have := sidesAt_len (s := s) H.out.ok.sides hk; simp [refCells, this]; omega)⟩
      have f1 : wr.frozen? ⟨b, 1 + k, none⟩ = false := Lib.frozen_of_heap hb.out _
      have htd : m.tdiv 2 = m / 2 := Int.tdiv_eq_ediv_of_nonneg hm0
      have htm : m.tmod 2 = m % 2 := Int.tmod_eq_emod_of_nonneg hm0
      have hwr : IntKind.u64.wrap (m / 2) = m / 2 := by rw [IntKind.wrap_u64]; omega
      have hbit : (m % 2 == 1) = decide (Net.bit s k = 1) := by
        rw [hm.out, mod_bit s k (by omega)]
        rfl
      have HNX : Hid (m / 2 = (s % 18446744073709551616) / ((2 ^ (k + 1) : Nat) : Int)) := Lib.hid (by
        rw [hm.out, Int.ediv_ediv_of_nonneg (by omega), Nat.pow_succ, Int.natCast_mul]; rfl)
      have HST : Hid ((wr.setCell ⟨b, 1 + k, none⟩ (.bool (decide (Net.bit s k = 1)))).heap[b]? = some (.cells (refCells v (sidesAt s N.s (k + 1))) 30 (0, 0))) := Lib.hid (by
        have e := heap_setCell_same wr b (1 + k) _ 30 (.bool (decide (Net.bit s k = 1))) hb.out
        rw [refCells_set, sidesAt_set H.out.ok.sides hk3] at e
        exact e)
      have HF2 : Hid (Fr (fun i => i = b) w (wr.setCell ⟨b, 1 + k, none⟩ (.bool (decide (Net.bit s k = 1))))) := Lib.hid (hf.out.setCell (p := ⟨b, 1 + k, none⟩) (.inl rfl) _)
      generalize decide (Net.bit s k = 1) = bt at *
      clear hm hpos
      go_wp2_with fail
      go_roundw
      case rel => exact ⟨k + 1, _, rfl, rfl, by omega, HNX, HST, HF2⟩
      case measure => simp [numOf]; omega
    · have hk3 : k = 32 := by omega
      have HB : Hid (wr.heap[b]? = some (.cells (refCells v (N.split s).s) 30 (0, 0))) := Lib.hid (by have := hb.out; rw [hk3, sides_all _ _ H.out.ok.sides] at this; exact this)
      clear hb hk3 hm
      go_wp2_with fail
      go_end0
      have hf2 := hf.out
      have hok := Net.split_ok H.out.ok s
      refine ⟨rfl, v, ⟨HB.out, H.out.row.keep fun g hg => hf2.block g (H.out.row.lt g hg).2 (by rintro rfl; exact H.out.apart hg), hok, H.out.low⟩, fun g hg => .inl hg, ⟨hf2.os, hf2.tape, hf2.output, hf2.size, fun i hi hn => hf2.block i hi fun q => hn (.inl q)⟩⟩
end Go.Proofs.Ytipclhklkngamaa
