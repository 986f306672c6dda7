import Derived.Test.YtodalljccjcejaaKey
namespace Go.Proofs.Ytodalljccjcejaa
open Go.RowKit
set_option linter.unusedVariables false

theorem a1 : keyOf [87, 101, 98, 45, 49] = [119, 101, 98, 45, 49] := by decide +kernel
theorem a2 : errOf [87, 101, 98, 45, 49] = 0 := by decide +kernel
theorem a3 : errOf [97, 32, 98] = 5 := by decide +kernel
theorem a4 : (Pl.runes [255]).length = 1 := by decide +kernel
theorem a5 : Pl.okay [255] = false := by decide +kernel
theorem a6 : may [97] = true := by decide +kernel
theorem a7 : may [45, 97] = false := by decide +kernel
theorem a8 : Pl.cut [195, 164, 195, 182, 195, 188] 2 = [195, 164, 195, 182] := by decide +kernel
theorem a9 : Pl.less [97] [98] = true := by decide +kernel
theorem a10 : Pl.less [98] [97] = false := by decide +kernel

theorem k1 (w : World) : Calls Try.prog 13 #[.string ⟨#[87, 101, 98, 45, 49]⟩] w fun e w' => e = .returned (.tuple #[.string ⟨#[119, 101, 98, 45, 49]⟩, .int .i64 0]) ∧ Below w.heap.size w w' :=
  (key_any ⟨#[87, 101, 98, 45, 49]⟩ w (by decide)).mono fun e w' h => ⟨h.1.trans (by rw [a1, a2]; rfl), h.2⟩
theorem k2 (w : World) : Calls Try.prog 13 #[.string ⟨#[97, 32, 98]⟩] w fun e w' => (∃ v, e = .returned (.tuple #[.string v, .int .i64 5])) ∧ Below w.heap.size w w' :=
  (key_any ⟨#[97, 32, 98]⟩ w (by decide)).mono fun e w' h => ⟨⟨_, h.1.trans (by rw [a3])⟩, h.2⟩
theorem k3 (w : World) : Calls Try.prog 11 #[.string ⟨#[255]⟩] w fun e w' => e = .returned (.tuple #[.int .i64 1, .bool false]) ∧ Below w.heap.size w w' :=
  (runes_any ⟨#[255]⟩ w (by decide)).mono fun e w' h => ⟨h.1.trans (by rw [a4, a5]; rfl), h.2⟩
theorem k4 (w : World) : Calls Try.prog 15 #[.string ⟨#[97]⟩] w fun e w' => e = .returned (.bool true) ∧ Below w.heap.size w w' :=
  (may_any ⟨#[97]⟩ w (by decide)).mono fun e w' h => ⟨h.1.trans (by rw [a6]), h.2⟩
theorem k5 (w : World) : Calls Try.prog 15 #[.string ⟨#[45, 97]⟩] w fun e w' => e = .returned (.bool false) ∧ Below w.heap.size w w' :=
  (may_any ⟨#[45, 97]⟩ w (by decide)).mono fun e w' h => ⟨h.1.trans (by rw [a7]), h.2⟩
theorem k6 (w : World) : Calls Try.prog 17 #[.string ⟨#[195, 164, 195, 182, 195, 188]⟩, .int .i64 2] w fun e w' => e = .returned (.string ⟨#[195, 164, 195, 182]⟩) ∧ Below w.heap.size w w' :=
  (cut_any ⟨#[195, 164, 195, 182, 195, 188]⟩ 2 w (by decide) (by omega) (by omega)).mono fun e w' h => ⟨h.1.trans (by rw [show (2 : Int).toNat = 2 from rfl, a8]; rfl), h.2⟩
theorem k7 (w : World) : Calls Try.prog 19 #[.string ⟨#[97]⟩, .string ⟨#[98]⟩] w fun e w' => e = .returned (.bool true) ∧ Below w.heap.size w w' :=
  (less_any ⟨#[97]⟩ ⟨#[98]⟩ w (by decide) (by decide)).mono fun e w' h => ⟨h.1.trans (by rw [a9]), h.2⟩
theorem k8 (w : World) : Calls Try.prog 19 #[.string ⟨#[98]⟩, .string ⟨#[97]⟩] w fun e w' => e = .returned (.bool false) ∧ Below w.heap.size w w' :=
  (less_any ⟨#[98]⟩ ⟨#[97]⟩ w (by decide) (by decide)).mono fun e w' h => ⟨h.1.trans (by rw [a10]), h.2⟩

def Ret (v : Value) (w : World) (e : Ending) (w' : World) : Prop := e = .returned v ∧ Below w.heap.size w w'

set_option maxRecDepth 100000 in
theorem awake_any (w : World) : Calls Try.prog 10 #[] w (Ret (.bool true) w) := by
  have B0 := Lib.hid (Below.refl w.heap.size w)
  go_enter Try.func10, Try.ntmps10
  go_wp2_with fail
  refine (k1 _).mono ?_
  rintro e w1 ⟨rfl, hb⟩
  have B1 := Lib.hid (B0.out.trans (hb.mono B0.out.size))
  clear hb
  go_wp2_with fail
  refine (k2 _).mono ?_
  rintro e w2 ⟨⟨v, rfl⟩, hb⟩
  have B2 := Lib.hid (B1.out.trans (hb.mono B1.out.size))
  clear hb
  go_wp2_with fail
  refine (k3 _).mono ?_
  rintro e w3 ⟨rfl, hb⟩
  have B3 := Lib.hid (B2.out.trans (hb.mono B2.out.size))
  clear hb
  go_wp2_with fail
  refine (k4 _).mono ?_
  rintro e w4 ⟨rfl, hb⟩
  have B4 := Lib.hid (B3.out.trans (hb.mono B3.out.size))
  clear hb
  go_wp2_with fail
  refine (k5 _).mono ?_
  rintro e w5 ⟨rfl, hb⟩
  have B5 := Lib.hid (B4.out.trans (hb.mono B4.out.size))
  clear hb
  go_wp2_with fail
  refine (k6 _).mono ?_
  rintro e w6 ⟨rfl, hb⟩
  have B6 := Lib.hid (B5.out.trans (hb.mono B5.out.size))
  clear hb
  go_wp2_with fail
  refine (k7 _).mono ?_
  rintro e w7 ⟨rfl, hb⟩
  have B7 := Lib.hid (B6.out.trans (hb.mono B6.out.size))
  clear hb
  go_wp2_with fail
  refine (k8 _).mono ?_
  rintro e w8 ⟨rfl, hb⟩
  have B8 := Lib.hid (B7.out.trans (hb.mono B7.out.size))
  clear hb
  go_wp2_with fail
  go_ret
  exact ⟨rfl, B8.out⟩
end Go.Proofs.Ytodalljccjcejaa
