import Derived.Test.YtipclhklkngamaaNh
namespace Go.Proofs.Ytipclhklkngamaa
open Go.RowKit
set_option linter.unusedVariables false

theorem i64_and1 (n : Int) : bits .and .i64 n 1 = n % 2 := by
  have h1 : (BitVec.ofInt 64 1).toNat = 2 ^ 1 - 1 := by decide
  have key : (BitVec.ofInt 64 n &&& BitVec.ofInt 64 1).toNat = (n % ((2 ^ 64 : Nat) : Int)).toNat % 2 ^ 1 := by
    rw [BitVec.toNat_and, BitVec.toNat_ofInt, h1, Nat.and_two_pow_sub_one_eq_mod]
  show IntKind.i64.wrap ((BitVec.ofInt 64 n &&& BitVec.ofInt 64 1).toNat : Nat) = n % 2
  rw [key, IntKind.wrap_i64]
  omega
def numOf : Value → Int | .int _ n => n | _ => 0
def sidesAt (s : Int) (S : List Int) (k : Nat) : List Int := (List.range k).map (Net.bit s) ++ S.drop k
theorem sidesAt_len {s : Int} {S : List Int} {k : Nat} (h : S.length = 32) (hk : k ≤ 32) : (sidesAt s S k).length = 32 := by
  simp only [sidesAt, List.length_append, List.length_map, List.length_range, List.length_drop]; omega
theorem sidesAt_set {s : Int} {S : List Int} {k : Nat} (h : S.length = 32) (hk : k < 32) : (sidesAt s S k).set k (Net.bit s k) = sidesAt s S (k + 1) := by
  unfold sidesAt
  rw [List.set_append_right _ _ (by simp), List.length_map, List.length_range, Nat.sub_self, List.range_succ, List.map_append, List.append_assoc]
  congr 1
  rw [List.drop_eq_getElem_cons (by omega)]
  rfl
theorem cells_set (v : Value) (S : List Int) (k : Nat) (x : Int) : (netCells v S).setIfInBounds (1 + k) (.int .i64 x) = netCells v (S.set k x) := by
  simp [netCells, Nat.add_comm 1 k, List.map_set]
theorem sides_all (s : Int) (S : List Int) (h : S.length = 32) : sidesAt s S 32 = (List.range 32).map (Net.bit s) := by
  unfold sidesAt; rw [List.drop_eq_nil_of_le (by omega), List.append_nil]
set_option maxHeartbeats 1000000 in
set_option maxRecDepth 100000 in
theorem split_any {w : World} {B b : Nat} {N : Net} {v : Value} (h : NetAt w B b N v) (s : Int) (s0 : -9223372036854775808 ≤ s) (s1 : s ≤ 9223372036854775807) :
    Calls Try.prog 18 #[.pointer (some ⟨b, 0, none⟩), .int .i64 s] w fun e w' => e = .returned (.tuple #[]) ∧ To w w' B b v (N.split s) := by
  have H := Lib.hid h
  have hblt := h.lt
  clear h
  go_enter Try.func18, Try.ntmps18
  go_wp2_with fail
  go_loopw [4, 7] (fun aV iV wr => ∃ (k : Nat), iV = .int .i64 (k : Nat) ∧ k ≤ 32 ∧ Hid (wr.heap[b]? = some (.cells (netCells v (sidesAt s N.s k)) 49 (0, 0))) ∧ Hid (Fr (fun i => i = b) w wr)) (fun _ iV _ => 32 - (numOf iV).toNat)
  case atStart => exact ⟨0, rfl, by omega, Lib.hid H.out.box, Lib.hid (Fr.refl _ w)⟩
  case round =>
    obtain ⟨k, rfl, hk, hb, hf⟩ := hrel
    by_cases hk2 : (k : Int) < 32
    · have hk3 : k < 32 := by omega
      obtain ⟨u, c1⟩ : ∃ u, wr.cell? ⟨b, 1 + k, none⟩ = some u := by
        rw [Lib.cell_of_heap hb.out]
        exact ⟨_, Array.getElem?_eq_getElem (by have := sidesAt_len (s := s) H.out.ok.sides hk; simp [netCells, this]; omega)⟩
      have f1 : wr.frozen? ⟨b, 1 + k, none⟩ = false := Lib.frozen_of_heap hb.out _
      have hx : bits .and .i64 (s / 2 ^ k) 1 = Net.bit s k := by rw [i64_and1]; unfold Net.bit; push_cast; rfl
      have HST : Hid ((wr.setCell ⟨b, 1 + k, none⟩ (.int .i64 (Net.bit s k))).drew.heap[b]? = some (.cells (netCells v (sidesAt s N.s (k + 1))) 49 (0, 0))) := Lib.hid (by
        have e := heap_setCell_same wr b (1 + k) _ 49 (.int .i64 (Net.bit s k)) hb.out
        rw [cells_set, sidesAt_set H.out.ok.sides hk3] at e
        exact e)
      have HF2 : Hid (Fr (fun i => i = b) w (wr.setCell ⟨b, 1 + k, none⟩ (.int .i64 (Net.bit s k))).drew) := Lib.hid ((hf.out.setCell (p := ⟨b, 1 + k, none⟩) (.inl rfl) _).drew)
      generalize Net.bit s k = bt at *
      go_wp2_with fail
      go_region
      go_wp2_with fail
      go_roundw
      case rel => exact ⟨k + 1, rfl, by omega, HST, HF2⟩
      case measure => simp [numOf]; omega
    · have hk3 : k = 32 := by omega
      have HB : Hid (wr.heap[b]? = some (.cells (netCells v (N.split s).s) 49 (0, 0))) := Lib.hid (by have := hb.out; rw [hk3, sides_all _ _ H.out.ok.sides] at this; exact this)
      clear hb hk3
      go_wp2_with fail
      go_end0
      have hf2 := hf.out
      have hok := Net.split_ok H.out.ok s
      refine ⟨rfl, v, ⟨HB.out, H.out.row.keep fun g hg => hf2.block g (H.out.row.lt g hg).2 (by rintro rfl; exact H.out.apart hg), hok, H.out.low⟩, fun g hg => .inl hg, ⟨hf2.os, hf2.tape, hf2.output, hf2.size, fun i hi hn => hf2.block i hi fun q => hn (.inl q)⟩⟩
end Go.Proofs.Ytipclhklkngamaa
