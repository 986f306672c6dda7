import Derived.Test.YtkhhmpcpcdadaaaProc
namespace Go.Proofs.Ytkhhmpcpcdadaaa
open Go.RowKit
set_option linter.unusedVariables false

theorem inv32 (x : Nat) (h : x < 4294967296) : bits .xor .u32 IntKind.u32.max (x : Int) = ((4294967295 - x : Nat) : Int) := by
  have h1 := u32_xor_nat 4294967295 x (by omega) h
  rw [← Pl.inv_xor h] at h1
  exact h1

set_option maxRecDepth 20000 in
theorem sum_any (bs : List UInt8) (A : Option Addr) (n cap : Nat) (w : World) (hb : BytesAt w w.heap.size A bs) (hn : bs.length = n) (hc : n ≤ 9223372036854775807) : Calls Try.prog 22 #[.slice A n cap] w (RetBelow (.int .u32 (Pl.sum bs : Nat)) w) := by
  have HN := Lib.hid hn
  have HB := Lib.hid hb
  clear hn hb
  go_enter Try.func22, Try.ntmps22
  go_wp2_with fail
  refine (process_any 4294967295 bs A n cap w (by omega) HB.out HN.out hc).mono ?_
  rintro e w1 ⟨rfl, hb1⟩
  have hl := Pl.more0_lt bs 4294967295 (by omega)
  have HS := Lib.hid (show Pl.sum bs = 4294967295 - Pl.more0 4294967295 bs from rfl)
  generalize Pl.more0 4294967295 bs = R at *
  go_wp2_with fail
  go_ret
  exact ⟨ret_u32 (by rw [HS.out]; exact inv32 R hl), hb1⟩

theorem Pl.bitsOf_snoc : ∀ (k c : Nat), Pl.bitsOf (k + 1) c = Pl.bitsOf k c ++ [c / 2 ^ k % 2] := by
  intro k
  induction k with
  | zero => intro c; simp [Pl.bitsOf]
  | succ k ih =>
    intro c
    rw [Pl.bitsOf, ih, Pl.bitsOf, List.cons_append, Nat.div_div_eq_div_mul, Nat.pow_succ, Nat.mul_comm 2]
theorem Pl.run_snoc (s k c : Nat) : Pl.run s (Pl.bitsOf (k + 1) c) = Pl.step (Pl.run s (Pl.bitsOf k c)) (c / 2 ^ k % 2) := by
  rw [Pl.bitsOf_snoc, Pl.run_append]; rfl

def RO (s : Nat) (bs : List UInt8) (n : Nat) (v i : Value) : Prop := ∃ k : Nat, k ≤ n ∧ i = .int .i64 k ∧ v = .int .u32 (Pl.more0 s (bs.take k) : Nat)
def RI (R : Nat) (x : UInt8) (v c i : Value) : Prop := ∃ k : Nat, k ≤ 8 ∧ i = .int .i64 k ∧ c = .int .u8 ((x.toNat / 2 ^ k : Nat) : Int) ∧ v = .int .u32 (Pl.run R (Pl.bitsOf k x.toNat) : Nat)

set_option maxRecDepth 20000 in
theorem refMore_any (s : Nat) (bs : List UInt8) (A : Option Addr) (n cap B : Nat) (w : World) (hs : s < 4294967296) (hb : BytesAt w B A bs) (hn : bs.length = n) (hc : n ≤ 9223372036854775807) : Calls Try.prog 27 #[.int .u32 s, .slice A n cap] w fun e w' => e = .returned (.int .u32 (Pl.more s bs : Nat)) ∧ w = w' := by
  have HN := Lib.hid hn
  have HB := Lib.hid hb
  have HS := Lib.hid (show Pl.more s bs = 4294967295 - Pl.more0 (4294967295 - s) bs from rfl)
  clear hn hb
  go_enter Try.func27, Try.ntmps27
  go_wp2_with fail
  rw [show (4294967295 - (s : Int)) = ((4294967295 - s : Nat) : Int) from by omega]
  have hsl : 4294967295 - s < 4294967296 := by omega
  generalize 4294967295 - s = s' at *
  go_loop [5, 6] (RO s' bs n) (fun _ i => n - (intOf i).toNat)
  case atStart => exact ⟨0, Nat.zero_le _, rfl, rfl⟩
  case round =>
    obtain ⟨k, hk, rfl, rfl⟩ := hrel
    by_cases hlt : k < n
    · have hbl : k < bs.length := by rw [HN.out]; exact hlt
      obtain ⟨b, off, rfl, hb1, hb2⟩ := HB.out (fun e => by rw [e] at hbl; simp at hbl)
      have hcell : w.cell? ⟨b, off + k, none⟩ = some (.int .u8 (bs[k].toNat : Int)) := hb2 k bs[k] (List.getElem?_eq_getElem hbl)
      have HSN := Lib.hid (show Pl.more0 s' (bs.take (k + 1)) = Pl.byte (Pl.more0 s' (bs.take k)) bs[k] from by
        rw [List.take_succ_eq_append_getElem hbl]
        unfold Pl.more0
        rw [List.foldl_append]
        rfl)
      have hR := Pl.more0_lt (bs.take k) s' hsl
      generalize Pl.more0 s' (bs.take k) = R at *
      have hdk : decide (k < n) = true := by simpa using hlt
      have hx := bs[k].toNat_lt
      generalize bs[k] = x at *
      clear hb2 hbl
      go_wp2_with fail
      go_loop [5, 7, 8] (RI R x) (fun _ _ i => 8 - (intOf i).toNat)
      case atStart => exact ⟨0, by omega, rfl, by simp, by rfl⟩
      case round =>
        obtain ⟨m, hm, rfl, rfl, rfl⟩ := hrel
        by_cases hlt2 : m < 8
        · have hql : x.toNat / 2 ^ m < 256 := Nat.lt_of_le_of_lt (Nat.div_le_self _ _) hx
          have HQ := Lib.hid (show x.toNat / 2 ^ m / 2 = x.toNat / 2 ^ (m + 1) from by rw [Nat.div_div_eq_div_mul, Nat.pow_succ])
          have HRS := Lib.hid (Pl.run_snoc R m x.toNat)
          have hrl := Pl.run_lt (Pl.bitsOf m x.toNat) R hR (Pl.bitsOf_two m _)
          generalize Pl.run R (Pl.bitsOf m x.toNat) = S at *
          generalize x.toNat / 2 ^ m = q at *
          go_wp2_with fail
          refine (refStep_any S (q % 2) w hrl (by omega)).mono ?_
          rintro e w' ⟨rfl, rfl⟩
          go_wp2_with fail
          go_round
          case rel => exact ⟨m + 1, by omega, by go_num, by rw [← HQ.out]; go_num, by rw [HRS.out]⟩
          case measure => simp [intOf]; omega
        · obtain rfl : m = 8 := by omega
          go_wp2_with fail
          go_round
          case rel => exact ⟨k + 1, by omega, by go_num, by rw [HSN.out]; rfl⟩
          case measure => simp [intOf]; omega
    · obtain rfl : k = n := by omega
      rw [List.take_of_length_le (by rw [HN.out]; omega)]
      have hl := Pl.more0_lt bs s' hsl
      generalize Pl.more0 s' bs = R at *
      go_wp2_with fail
      go_ret
      exact ⟨ret_u32 (by rw [HS.out]; omega), rfl⟩
set_option maxRecDepth 20000 in
theorem refSum_any (bs : List UInt8) (A : Option Addr) (n cap B : Nat) (w : World) (hb : BytesAt w B A bs) (hn : bs.length = n) (hc : n ≤ 9223372036854775807) : Calls Try.prog 24 #[.slice A n cap] w fun e w' => e = .returned (.int .u32 (Pl.sum bs : Nat)) ∧ w = w' := by
  have HN := Lib.hid hn
  have HB := Lib.hid hb
  clear hn hb
  go_enter Try.func24, Try.ntmps24
  go_wp2_with fail
  refine (refMore_any 0 bs A n cap B w (by omega) HB.out HN.out hc).mono ?_
  rintro e w' ⟨rfl, rfl⟩
  go_wp2_with fail
  go_ret
  exact ⟨rfl, rfl⟩
end Go.Proofs.Ytkhhmpcpcdadaaa
