import Derived.Test.YtmdkjdmiikbhcaaAwake
import Derived.Deep.CutRange
namespace Go.Proofs.Ytmdkjdmiikbhcaa
open Go.RowKit
set_option linter.unusedVariables false

theorem BytesAt.on {w w' : World} {A : Option Addr} {bs : List UInt8} (h : BytesAt w w.heap.size A bs) (hb : Below w.heap.size w w') : BytesAt w' w'.heap.size A bs :=
  (h.keep fun q hq => hb.block q hq).mono hb.size
theorem OwnB.new (w : World) : OwnB (w.alloc (.cells #[] 5)) w.heap.size (.slice (some ⟨w.heap.size, 0, none⟩) 0 0) [] := World.ownsRow_made w #[] 0 (Nat.le_refl _) (by simp [maxLen]) (by simp)

set_option maxRecDepth 20000 in
theorem law_joins (a : List UInt8) (A : Option Addr) (n cap : Nat) (b : List UInt8) (A' : Option Addr) (n' cap' : Nat) (w : World) (hb : BytesAt w w.heap.size A a) (hn : a.length = n) (hnc : n ≤ cap) (hc : cap ≤ 9223372036854775807) (hA : A = none → cap = 0)
    (hb' : BytesAt w w.heap.size A' b) (hn' : b.length = n') (hnc' : n' ≤ cap') (hc' : cap' ≤ 9223372036854775807) (hA' : A' = none → cap' = 0) :
    Calls Try.prog 4 #[.slice A n cap, .slice A' n' cap'] w (RetBelow (.bool true) w) := by
  have HN := Lib.hid hn
  have HB := Lib.hid hb
  have HA := Lib.hid hA
  have HN' := Lib.hid hn'
  have HB' := Lib.hid hb'
  have HA' := Lib.hid hA'
  clear hn hb hA hn' hb' hA'
  go_enter Try.func4, Try.ntmps4
  go_wp2_with fail
  refine (awake_any _).mono ?_
  rintro e w1 ⟨rfl, hb1⟩
  have B1 := Lib.hid hb1
  clear hb1
  have hcs : 65536 < n ∨ (n ≤ 65536 ∧ 65536 < n') ∨ (n ≤ 65536 ∧ n' ≤ 65536) := by omega
  rcases hcs with h | ⟨h, h'⟩ | ⟨h, h'⟩
  · go_wp2_with fail
    go_ret
    exact ⟨rfl, B1.out⟩
  · go_wp2_with fail
    go_ret
    exact ⟨rfl, B1.out⟩
  have hnew := Lib.hid (OwnB.new w1)
  have hb2 : Below w.heap.size w (w1.alloc (.cells #[] 5)) := B1.out.alloc B1.out.size _
  have hs1 := B1.out.size
  have B2 := Lib.hid hb2
  clear hb2
  go_wp2_with (first
    | (at_builtin; (refine wp_appB rfl (.tmp 15) (.tmp 16) rfl w1.heap.size _ [] rfl hnew.out A n cap _ a rfl HA.out (HB.out.on B2.out) HN.out hnc (by simp; omega) (by simp) ?_); intro v3 w3 own3 hb3; obtain ⟨A3, cap3, rfl, hbt3, hc3, hcm3⟩ := own3.form; have hl3 := hb3.size; rw [World.size_alloc] at hl3; have B3 := Lib.hid (B2.out.trans (hb3.mono hs1)); have O3 := Lib.hid own3; clear own3 hbt3 hb3)
    | (at_builtin; (refine wp_appB rfl (.tmp 17) (.tmp 18) rfl w1.heap.size _ _ rfl O3.out A' n' cap' _ b rfl HA'.out (HB'.out.on B3.out) HN'.out hnc' (by have := HN.out; simp; omega) (by omega) ?_); intro v4 w4 own4 hb4; obtain ⟨A4, cap4, rfl, hbt4, hc4, hcm4⟩ := own4.form))
  have hl4 := hb4.size
  have B4 := Lib.hid (B3.out.trans (hb4.mono hs1))
  simp only [List.nil_append, List.length_append] at hbt4 hc4
  have T4 := Lib.hid hbt4
  clear own4 hbt4 hb4
  refine (sum_any (a ++ b) A4 (a.length + b.length) cap4 w4 T4.out (by simp) (by omega)).mono ?_
  rintro e w5 ⟨rfl, hb5⟩
  have B5 := Lib.hid (B4.out.trans (hb5.mono B4.out.size))
  clear hb5
  rw [Pl.sum_join]
  generalize hz : Pl.more (Pl.sum a) b = Z at *
  have HZ := Lib.hid hz
  clear hz
  go_wp2_with fail
  refine (sum_any a A n cap w5 (HB.out.on B5.out) HN.out (by omega)).mono ?_
  rintro e w6 ⟨rfl, hb6⟩
  have B6 := Lib.hid (B5.out.trans (hb6.mono B5.out.size))
  clear hb6
  go_wp2_with fail
  refine (more_any (Pl.sum a) b A' n' cap' w6 (Pl.more_lt _ _) (HB'.out.on B6.out) HN'.out (by omega)).mono ?_
  rintro e w7 ⟨rfl, hb7⟩
  have B7 := Lib.hid (B6.out.trans (hb7.mono B6.out.size))
  clear hb7
  rw [HZ.out]
  go_wp2_with fail
  go_ret
  exact ⟨rfl, B7.out⟩
end Go.Proofs.Ytmdkjdmiikbhcaa
