import Derived.Test.YtmdkjdmiikbhcaaAwake
namespace Go.Proofs.Ytmdkjdmiikbhcaa
open Go.RowKit
set_option linter.unusedVariables false

theorem zs_join (s : Nat) (n m : Int) (hs : s < 4294967296) (hn : 0 ≤ n) (hm : 0 ≤ m) : zs (zs s n) m = zs s (n + m) := by
  unfold zs
  rw [← Pl.more_join s _ _ hs, List.replicate_append_replicate]
  congr 2
  omega

set_option maxRecDepth 20000 in
theorem law_zeros (s n m : Int) (w : World) (s0 : 0 ≤ s) (s1 : s ≤ 4294967295) (n0 : -9223372036854775808 ≤ n) (n1 : n ≤ 9223372036854775807) (m0 : -9223372036854775808 ≤ m) (m1 : m ≤ 9223372036854775807) :
    Calls Try.prog 7 #[.int .u32 s, .int .i64 n, .int .i64 m] w (RetBelow (.bool true) w) := by
  obtain ⟨x, rfl⟩ := Int.eq_ofNat_of_zero_le s0
  have hx : x < 4294967296 := by omega
  go_enter Try.func7, Try.ntmps7
  go_wp2_with fail
  refine (awake_any _).mono ?_
  rintro e w1 ⟨rfl, hb1⟩
  have B1 := Lib.hid hb1
  clear hb1
  have hcs : n < 0 ∨ (0 ≤ n ∧ m < 0) ∨ (0 ≤ n ∧ 0 ≤ m ∧ 5000 < n) ∨ (0 ≤ n ∧ 0 ≤ m ∧ n ≤ 5000 ∧ 5000 < m) ∨ (0 ≤ n ∧ 0 ≤ m ∧ n ≤ 5000 ∧ m ≤ 5000) := by omega
  rcases hcs with h | ⟨h, h'⟩ | ⟨h, h', h''⟩ | ⟨h, h', h'', h3⟩ | ⟨g1, g2, g3, g4⟩
  iterate 4
    go_wp2_with fail
    go_ret
    exact ⟨rfl, B1.out⟩
  go_wp2_with fail
  refine (zeros_any x n w1 hx n1).mono ?_
  rintro e w' ⟨rfl, rfl⟩
  go_wp2_with fail
  refine (zeros_any (zs x n) m w1 (zs_lt _ _) m1).mono ?_
  rintro e w' ⟨rfl, rfl⟩
  rw [zs_join x n m hx g1 g2]
  go_wp2_with fail
  refine (zeros_any x (n + m) w1 hx (by omega)).mono ?_
  rintro e w' ⟨rfl, rfl⟩
  generalize zs x (n + m) = Z at *
  go_wp2_with fail
  refine (zeros_any x 0 w1 hx (by omega)).mono ?_
  rintro e w' ⟨rfl, rfl⟩
  rw [zs_none x 0 hx (by omega)]
  go_wp2_with fail
  refine (more_any x [] none 0 0 w1 hx (BytesAt.nil _ _ _) rfl (by omega)).mono ?_
  rintro e w2 ⟨rfl, hb2⟩
  rw [Pl.more_nil x hx]
  go_wp2_with fail
  go_ret
  exact ⟨rfl, B1.out.trans (hb2.mono B1.out.size)⟩
end Go.Proofs.Ytmdkjdmiikbhcaa
