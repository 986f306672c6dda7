import Derived.Test.YtmdkjdmiikbhcaaAwake
namespace Go.Proofs.Ytmdkjdmiikbhcaa
open Go.RowKit
set_option linter.unusedVariables false

set_option maxRecDepth 20000 in
theorem law_ends (a b : Nat) (bs : List UInt8) (A : Option Addr) (n cap : Nat) (w : World) (ha : a < 4294967296) (hb' : b < 4294967296) (hb : BytesAt w w.heap.size A bs) (hn : bs.length = n) (hc : n ≤ 9223372036854775807) :
    Calls Try.prog 8 #[.int .u32 a, .int .u32 b, .slice A n cap] w (RetBelow (.bool true) w) := by
  have HN := Lib.hid hn
  have HB := Lib.hid hb
  clear hn hb
  go_enter Try.func8, Try.ntmps8
  go_wp2_with fail
  refine (awake_any _).mono ?_
  rintro e w1 ⟨rfl, hb1⟩
  have B1 := Lib.hid hb1
  clear hb1
  by_cases hl : 65536 < n
  · go_wp2_with fail
    go_ret
    exact ⟨rfl, B1.out⟩
  go_wp2_with fail
  refine (more_any a bs A n cap w1 ha ((HB.out.keep fun q hq => B1.out.block q hq).mono B1.out.size) HN.out hc).mono ?_
  rintro e w2 ⟨rfl, hb2⟩
  have B2 := Lib.hid (B1.out.trans (hb2.mono B1.out.size))
  clear hb2
  go_wp2_with fail
  refine (more_any b bs A n cap w2 hb' ((HB.out.keep fun q hq => B2.out.block q hq).mono B2.out.size) HN.out hc).mono ?_
  rintro e w3 ⟨rfl, hb3⟩
  have B3 := Lib.hid (B2.out.trans (hb3.mono B2.out.size))
  clear hb3
  by_cases hab : a = b
  · subst hab
    go_wp2_with fail
    go_ret
    exact ⟨rfl, B3.out⟩
  · have hne : ((Pl.more a bs : Nat) : Int) ≠ (Pl.more b bs : Nat) := fun h => hab (Pl.more_inj a b bs ha hb' (by omega))
    generalize Pl.more a bs = X at *
    generalize Pl.more b bs = Y at *
    have h1 : ((X : Int) == (Y : Int)) = false := by rw [beq_eq_false_iff_ne]; exact hne
    have h2 : ((a : Int) == (b : Int)) = false := by rw [beq_eq_false_iff_ne]; omega
    have h3 : (X == Y) = false := by rw [beq_eq_false_iff_ne]; omega
    have h4 : (a == b) = false := by rw [beq_eq_false_iff_ne]; exact hab
    clear hne hab
    go_wp2_with fail
    go_ret
    exact ⟨rfl, B3.out⟩

theorem law_ends' (a b : Int) (bs : List UInt8) (A : Option Addr) (n cap : Nat) (w : World) (a0 : 0 ≤ a) (a1 : a ≤ 4294967295) (b0 : 0 ≤ b) (b1 : b ≤ 4294967295) (hb : BytesAt w w.heap.size A bs) (hn : bs.length = n) (hnc : n ≤ cap) (hc : cap ≤ 9223372036854775807) (hA : A = none → cap = 0) :
    Calls Try.prog 8 #[.int .u32 a, .int .u32 b, .slice A n cap] w (RetBelow (.bool true) w) := by
  obtain ⟨x, rfl⟩ := Int.eq_ofNat_of_zero_le a0
  obtain ⟨y, rfl⟩ := Int.eq_ofNat_of_zero_le b0
  exact law_ends x y bs A n cap w (by omega) (by omega) hb hn (by omega)
end Go.Proofs.Ytmdkjdmiikbhcaa
