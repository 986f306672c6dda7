import Derived.Test.YtebacdegjmcnlaaGreatRows
import Derived.Test.YtebacdegjmcnlaaGreatWa
import Derived.WalkKit
import Derived.ProofKit
import Derived.WalkLawsBesides
import Derived.Outline
import Derived.Deep.QuietTactic
import Derived.BigQuiet
import Derived.Laws.BitsAllLaws
namespace Go.Proofs.YtebacdegjmcnlaaGreat
open Go.RowKit
set_option linter.unusedVariables false
def Len64Post (n : Int) (w : World) (e : Ending) (w' : World) : Prop := ∃ r : Int, e = .returned (.int .i64 r) ∧ 0 ≤ r ∧ r ≤ 64 ∧ (r + 7) / 8 = Pl.dgs n.toNat ∧ w = w'
theorem len64_core (n : Int) (w : World) (b : Int) (x : Int) (hx : 0 ≤ x ∧ x < 256) (h : x.toNat < Pl.tab.size) (hb : 0 ≤ b ∧ b ≤ 56) (hb8 : b % 8 = 0) (hd : (Pl.dgs n.toNat : Int) = b / 8 + (if x = 0 then 0 else 1)) :
   Len64Post n w (.returned (.int .i64 (wrap64 (b + wrap64 ((Pl.tab[x.toNat]'h).toNat : Int))))) w := by
  have ht := Pl.tab_at x.toNat h
  generalize (Pl.tab[x.toNat]'h).toNat = t at ht
  have e1 : wrap64 (t : Int) = t := IntWalk.wrap64_in _ ⟨by omega, by omega⟩
  have e2 : wrap64 (b + (t : Int)) = b + t := IntWalk.wrap64_in _ ⟨by omega, by omega⟩
  refine ⟨b + t, by rw [e1, e2], by omega, by omega, ?_, rfl⟩
  rw [hd]
  split
  · omega
  · omega
theorem len64_core0 (n : Int) (w : World) (x : Int) (hx : 0 ≤ x ∧ x < 256) (h : x.toNat < Pl.tab.size) (hd : (Pl.dgs n.toNat : Int) = (if x = 0 then 0 else 1)) :
   Len64Post n w (.returned (.int .i64 (wrap64 (wrap64 ((Pl.tab[x.toNat]'h).toNat : Int))))) w := by
  have := len64_core n w 0 x hx h ⟨by omega, by omega⟩ (by omega) (by rw [hd]; omega)
  rwa [Int.zero_add] at this
set_option maxRecDepth 20000 in
theorem len64_0 (n : Int) (w : World) (h0 : 0 ≤ n) (h1 : n < 256)  : Calls Tryz.prog 59 #[.int .u64 n] w (Len64Post n w) := by
  go_enter Tryz.func59, Tryz.ntmps59
  go_wp2_with fail
  go_ret
  refine len64_core0 n w n (by omega) _ ?_
  unfold Pl.dgs
  repeat' split
  all_goals omega
set_option maxRecDepth 20000 in
theorem len64_1 (n : Int) (w : World) (h0 : 256 ≤ n) (h1 : n < 65536)  : Calls Tryz.prog 59 #[.int .u64 n] w (Len64Post n w) := by
  go_enter Tryz.func59, Tryz.ntmps59
  go_wp2_with fail
  go_ret
  refine len64_core n w _ _ (by omega) _ ⟨by omega, by omega⟩ (by omega) ?_
  unfold Pl.dgs
  repeat' split
  all_goals omega
set_option maxRecDepth 20000 in
theorem len64_2 (n : Int) (w : World) (h0 : 65536 ≤ n) (h1 : n < 16777216)  : Calls Tryz.prog 59 #[.int .u64 n] w (Len64Post n w) := by
  go_enter Tryz.func59, Tryz.ntmps59
  go_wp2_with fail
  go_ret
  refine len64_core n w _ _ (by omega) _ ⟨by omega, by omega⟩ (by omega) ?_
  unfold Pl.dgs
  repeat' split
  all_goals omega
set_option maxRecDepth 20000 in
theorem len64_3 (n : Int) (w : World) (h0 : 16777216 ≤ n) (h1 : n < 4294967296)  : Calls Tryz.prog 59 #[.int .u64 n] w (Len64Post n w) := by
  go_enter Tryz.func59, Tryz.ntmps59
  go_wp2_with fail
  go_ret
  refine len64_core n w _ _ (by omega) _ ⟨by omega, by omega⟩ (by omega) ?_
  unfold Pl.dgs
  repeat' split
  all_goals omega
set_option maxRecDepth 20000 in
theorem len64_4 (n : Int) (w : World) (h0 : 4294967296 ≤ n) (h1 : n < 1099511627776)  : Calls Tryz.prog 59 #[.int .u64 n] w (Len64Post n w) := by
  go_enter Tryz.func59, Tryz.ntmps59
  go_wp2_with fail
  go_ret
  refine len64_core n w _ _ (by omega) _ ⟨by omega, by omega⟩ (by omega) ?_
  unfold Pl.dgs
  repeat' split
  all_goals omega
set_option maxRecDepth 20000 in
theorem len64_5 (n : Int) (w : World) (h0 : 1099511627776 ≤ n) (h1 : n < 281474976710656)  : Calls Tryz.prog 59 #[.int .u64 n] w (Len64Post n w) := by
  go_enter Tryz.func59, Tryz.ntmps59
  go_wp2_with fail
  go_ret
  refine len64_core n w _ _ (by omega) _ ⟨by omega, by omega⟩ (by omega) ?_
  unfold Pl.dgs
  repeat' split
  all_goals omega
set_option maxRecDepth 20000 in
theorem len64_6 (n : Int) (w : World) (h0 : 281474976710656 ≤ n) (h1 : n < 72057594037927936)  : Calls Tryz.prog 59 #[.int .u64 n] w (Len64Post n w) := by
  go_enter Tryz.func59, Tryz.ntmps59
  go_wp2_with fail
  go_ret
  refine len64_core n w _ _ (by omega) _ ⟨by omega, by omega⟩ (by omega) ?_
  unfold Pl.dgs
  repeat' split
  all_goals omega
set_option maxRecDepth 20000 in
theorem len64_7 (n : Int) (w : World) (h0 : 72057594037927936 ≤ n) (h1 : n ≤ 18446744073709551615) : Calls Tryz.prog 59 #[.int .u64 n] w (Len64Post n w) := by
  go_enter Tryz.func59, Tryz.ntmps59
  go_wp2_with fail
  go_ret
  refine len64_core n w _ _ (by omega) _ ⟨by omega, by omega⟩ (by omega) ?_
  unfold Pl.dgs
  repeat' split
  all_goals omega
theorem len64_any (n : Int) (w : World) (h0 : 0 ≤ n) (h1 : n ≤ 18446744073709551615) : Calls Tryz.prog 59 #[.int .u64 n] w (Len64Post n w) := by
  by_cases c1 : n < 256
  · exact len64_0 n w h0 c1
  by_cases c2 : n < 65536
  · exact len64_1 n w (by omega) c2
  by_cases c3 : n < 16777216
  · exact len64_2 n w (by omega) c3
  by_cases c4 : n < 4294967296
  · exact len64_3 n w (by omega) c4
  by_cases c5 : n < 1099511627776
  · exact len64_4 n w (by omega) c5
  by_cases c6 : n < 281474976710656
  · exact len64_5 n w (by omega) c6
  by_cases c7 : n < 72057594037927936
  · exact len64_6 n w (by omega) c7
  exact len64_7 n w (by omega) h1
def DigitsPost (n : Int) (w : World) (e : Ending) (w' : World) : Prop := e = .returned (.int .i64 (Pl.dgs n.toNat)) ∧ w = w'
theorem digits_any (n : Int) (w : World) (h0 : 0 ≤ n) (h1 : n ≤ 18446744073709551615) : Calls Tryz.prog 101 #[.int .u64 n] w (DigitsPost n w) := by
  go_enter Tryz.func101, Tryz.ntmps101
  go_wp2_with (go_at_call 59; refine (len64_any _ _ (by omega) (by omega)).mono ?_; rintro e w' ⟨r, rfl, hr0, hr1, hr2, rfl⟩)
  go_ret
  exact ⟨by rw [← hr2]; rfl, rfl⟩
theorem countSize_any (n : Int) (w : World) (h0 : 0 ≤ n) (h1 : n ≤ 18446744073709551615) : Calls Tryz.prog 112 #[.int .u64 n] w fun e w' => e = .returned (.int .i64 (1 + Pl.dgs n.toNat)) ∧ w = w' := by
  have hd := Pl.dgs_le n.toNat
  go_enter Tryz.func112, Tryz.ntmps112
  go_wp2_with (go_at_call 101; refine (digits_any _ _ (by omega) (by omega)).mono ?_; rintro e w' ⟨rfl, rfl⟩)
  go_ret
  exact ⟨rfl, rfl⟩
theorem xor_ones (x : Nat) (hx : x < 18446744073709551616) : x ^^^ 18446744073709551615 = 18446744073709551615 - x := by
  have h : (BitVec.ofNat 64 x ^^^ BitVec.allOnes 64).toNat = (~~~ (BitVec.ofNat 64 x)).toNat := by rw [BitVec.xor_allOnes]
  rw [BitVec.toNat_xor, BitVec.toNat_not, BitVec.toNat_ofNat, BitVec.toNat_allOnes, Nat.mod_eq_of_lt (by simpa using hx)] at h
  simpa using h
theorem fold_value (n : Int) (h0 : -9223372036854775808 ≤ n) (h1 : n ≤ 9223372036854775807) :
    bits BinOp.xor IntKind.u64 (IntKind.u64.wrap (IntKind.u64.wrap n * 2)) (IntKind.u64.wrap (n / 9223372036854775808)) = (Pl.foldN n : Int) := by
  simp only [IntKind.wrap_u64]
  unfold Pl.foldN
  by_cases c : n < 0
  · rw [if_pos c]
    obtain ⟨x, hx⟩ : ∃ x : Nat, n % 18446744073709551616 * 2 % 18446744073709551616 = (x : Int) := ⟨(n % 18446744073709551616 * 2 % 18446744073709551616).toNat, by omega⟩
    have e : n / 9223372036854775808 % 18446744073709551616 = ((18446744073709551615 : Nat) : Int) := by omega
    rw [hx, e, u64_xor_nat _ _ (by omega) (by omega), xor_ones x (by omega)]
    omega
  · rw [if_neg c]
    obtain ⟨x, hx⟩ : ∃ x : Nat, n % 18446744073709551616 * 2 % 18446744073709551616 = (x : Int) := ⟨(n % 18446744073709551616 * 2 % 18446744073709551616).toNat, by omega⟩
    have e : n / 9223372036854775808 % 18446744073709551616 = ((0 : Nat) : Int) := by omega
    rw [hx, e, u64_xor_nat _ _ (by omega) (by omega), Nat.xor_zero]
    omega
theorem foldN_lt (n : Int) (h0 : -9223372036854775808 ≤ n) (h1 : n ≤ 9223372036854775807) : (Pl.foldN n : Int) ≤ 18446744073709551615 := by
  unfold Pl.foldN; split <;> omega
set_option maxRecDepth 20000 in
theorem fold_any (n : Int) (w : World) (h0 : -9223372036854775808 ≤ n) (h1 : n ≤ 9223372036854775807) :
    Calls Tryz.prog 76 #[.int .i64 n] w fun e w' => e = .returned (.int .u64 (Pl.foldN n)) ∧ w = w' := by
  go_enter Tryz.func76, Tryz.ntmps76
  go_wp2_with fail
  go_ret
  exact ⟨by rw [← fold_value n h0 h1]; rfl, rfl⟩
def unfoldI (n : Int) : Int := if n % 2 = 0 then n / 2 else -(n / 2) - 1
theorem unfold_value (n : Int) (h0 : 0 ≤ n) (h1 : n ≤ 18446744073709551615) :
    bits BinOp.xor IntKind.i64 (n / 2) (wrap64 (-wrap64 (bits BinOp.and IntKind.u64 n 1))) = unfoldI n := by
  obtain ⟨m, rfl⟩ := Int.eq_ofNat_of_zero_le h0
  have e : bits BinOp.and IntKind.u64 (m : Int) 1 = ((m % 2 : Nat) : Int) := by
    have := u64_and_nat m 1 (by omega) (by omega)
    rw [Nat.and_one_is_mod] at this
    exact_mod_cast this
  have e1 : wrap64 ((m % 2 : Nat) : Int) = ((m % 2 : Nat) : Int) := IntWalk.wrap64_in _ ⟨by omega, by omega⟩
  have e2 : wrap64 (-((m % 2 : Nat) : Int)) = -((m % 2 : Nat) : Int) := IntWalk.wrap64_in _ ⟨by omega, by omega⟩
  rw [e, e1, e2]
  have hx : ((m : Int) / 2) = ((m / 2 : Nat) : Int) := by omega
  rw [hx]
  have hlt : m / 2 < 9223372036854775808 := by omega
  unfold unfoldI
  by_cases c : m % 2 = 0
  · rw [if_pos (by omega), c]
    show IntKind.i64.wrap ((BitVec.ofInt 64 ((m / 2 : Nat) : Int) ^^^ BitVec.ofInt 64 (-((0:Nat):Int))).toNat : Int) = _
    have h0 : BitVec.ofInt 64 (-((0:Nat):Int)) = 0#64 := by decide
    rw [h0, BitVec.xor_zero, BitVec.ofInt_natCast, BitVec.toNat_ofNat, Nat.mod_eq_of_lt (by omega), IntKind.wrap_i64]
    omega
  · have c1 : m % 2 = 1 := by omega
    rw [if_neg (by omega), c1]
    show IntKind.i64.wrap ((BitVec.ofInt 64 ((m / 2 : Nat) : Int) ^^^ BitVec.ofInt 64 (-((1:Nat):Int))).toNat : Int) = _
    have h0 : BitVec.ofInt 64 (-((1:Nat):Int)) = BitVec.allOnes 64 := by decide
    rw [h0, BitVec.xor_allOnes, BitVec.toNat_not, BitVec.ofInt_natCast, BitVec.toNat_ofNat, Nat.mod_eq_of_lt (by omega), IntKind.wrap_i64]
    omega
set_option maxRecDepth 20000 in
theorem unfold_any (n : Int) (w : World) (h0 : 0 ≤ n) (h1 : n ≤ 18446744073709551615) :
    Calls Tryz.prog 105 #[.int .u64 n] w fun e w' => e = .returned (.int .i64 (unfoldI n)) ∧ w = w' := by
  go_enter Tryz.func105, Tryz.ntmps105
  go_wp2_with fail
  go_ret
  exact ⟨by rw [← unfold_value n h0 h1]; rfl, rfl⟩
end Go.Proofs.YtebacdegjmcnlaaGreat
