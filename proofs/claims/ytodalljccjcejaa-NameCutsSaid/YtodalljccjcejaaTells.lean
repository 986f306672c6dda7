import Derived.Test.YtodalljccjcejaaRu
namespace Go.Proofs.Ytodalljccjcejaa
open Go.RowKit
set_option linter.unusedVariables false

theorem ret_of {v : Value} {w : World} {e : Ending} {w' : World} (h : e = .returned v ∧ w = w') : Ret v w e w' := ⟨h.1, h.2 ▸ Below.refl _ _⟩

set_option maxHeartbeats 4000000 in
set_option maxRecDepth 100000 in
theorem tells_core (S K : ByteArray) (n : Nat) (o m : Bool) (E : Int) (w : World)
    (C1 : Hid (∀ w, Calls Try.prog 11 #[.string S] w (Ret (.tuple #[.int .i64 (n : Nat), .bool o]) w)))
    (C2 : Hid (∀ w, Calls Try.prog 12 #[.string S] w (Ret (.tuple #[.int .i64 (n : Nat), .bool o]) w)))
    (C3 : Hid (∀ w, Calls Try.prog 13 #[.string S] w (Ret (.tuple #[.string K, .int .i64 E]) w)))
    (C4 : Hid (∀ w, Calls Try.prog 14 #[.string S] w (Ret (.tuple #[.string K, .int .i64 E]) w)))
    (C5 : Hid (∀ w, Calls Try.prog 15 #[.string S] w (Ret (.bool m) w)))
    (C6 : Hid (∀ w, Calls Try.prog 16 #[.string S] w (Ret (.bool m) w))) :
    Calls Try.prog 3 #[.string S] w (Ret (.bool true) w) := by
  have B0 := Lib.hid (Below.refl w.heap.size w)
  go_enter Try.func3, Try.ntmps3
  go_wp2_with fail
  refine (awake_any _).mono ?_
  rintro e w1 ⟨rfl, hb⟩
  have B1 := Lib.hid (B0.out.trans (hb.mono B0.out.size))
  clear hb
  go_wp2_with fail
  refine (C1.out _).mono ?_
  rintro e w2 ⟨rfl, hb⟩
  have B2 := Lib.hid (B1.out.trans (hb.mono B1.out.size))
  clear hb
  go_wp2_with fail
  refine (C2.out _).mono ?_
  rintro e w3 ⟨rfl, hb⟩
  have B3 := Lib.hid (B2.out.trans (hb.mono B2.out.size))
  clear hb
  go_wp2_with fail
  refine (C3.out _).mono ?_
  rintro e w4 ⟨rfl, hb⟩
  have B4 := Lib.hid (B3.out.trans (hb.mono B3.out.size))
  clear hb
  go_wp2_with fail
  refine (C4.out _).mono ?_
  rintro e w5 ⟨rfl, hb⟩
  have B5 := Lib.hid (B4.out.trans (hb.mono B4.out.size))
  clear hb
  go_wp2_with fail
  refine (C5.out _).mono ?_
  rintro e w6 ⟨rfl, hb⟩
  have B6 := Lib.hid (B5.out.trans (hb.mono B5.out.size))
  clear hb
  go_wp2_with fail
  refine (C6.out _).mono ?_
  rintro e w7 ⟨rfl, hb⟩
  have B7 := Lib.hid (B6.out.trans (hb.mono B6.out.size))
  clear hb
  go_wp2_with fail
  go_ret
  exact ⟨rfl, B7.out⟩
theorem law_tells (l : List UInt8) (w : World) (h : l.length ≤ 140737488351232) : Calls Try.prog 3 #[.string (str l)] w (Ret (.bool true) w) :=
  tells_core (str l) (str (keyOf l)) (Pl.runes l).length (Pl.okay l) (may l) (errOf l) w
    (Lib.hid fun w => runes_str l w (by omega)) (Lib.hid fun w => (refRunes_str l w (by omega)).mono fun e w' h => ret_of h)
    (Lib.hid fun w => key_str l w (by omega)) (Lib.hid fun w => refKey_str l w h)
    (Lib.hid fun w => may_str l w (by omega)) (Lib.hid fun w => (refMay_str l w (by omega)).mono fun e w' h => ret_of h)

set_option maxHeartbeats 4000000 in
set_option maxRecDepth 100000 in
theorem cuts_core (S T C : ByteArray) (n : Int) (b : Bool) (w : World)
    (C1 : Hid (∀ w, Calls Try.prog 17 #[.string S, .int .i64 n] w (Ret (.string C) w)))
    (C2 : Hid (∀ w, Calls Try.prog 18 #[.string S, .int .i64 n] w (Ret (.string C) w)))
    (C3 : Hid (∀ w, Calls Try.prog 19 #[.string S, .string T] w (Ret (.bool b) w)))
    (C4 : Hid (∀ w, Calls Try.prog 20 #[.string S, .string T] w (Ret (.bool b) w))) :
    Calls Try.prog 4 #[.string S, .string T, .int .i64 n] w (Ret (.bool true) w) := by
  have B0 := Lib.hid (Below.refl w.heap.size w)
  go_enter Try.func4, Try.ntmps4
  go_wp2_with fail
  refine (awake_any _).mono ?_
  rintro e w1 ⟨rfl, hb⟩
  have B1 := Lib.hid (B0.out.trans (hb.mono B0.out.size))
  clear hb
  go_wp2_with fail
  refine (C1.out _).mono ?_
  rintro e w2 ⟨rfl, hb⟩
  have B2 := Lib.hid (B1.out.trans (hb.mono B1.out.size))
  clear hb
  go_wp2_with fail
  refine (C2.out _).mono ?_
  rintro e w3 ⟨rfl, hb⟩
  have B3 := Lib.hid (B2.out.trans (hb.mono B2.out.size))
  clear hb
  go_wp2_with fail
  refine (C3.out _).mono ?_
  rintro e w4 ⟨rfl, hb⟩
  have B4 := Lib.hid (B3.out.trans (hb.mono B3.out.size))
  clear hb
  go_wp2_with fail
  refine (C4.out _).mono ?_
  rintro e w5 ⟨rfl, hb⟩
  have B5 := Lib.hid (B4.out.trans (hb.mono B4.out.size))
  clear hb
  go_wp2_with fail
  go_ret
  exact ⟨rfl, B5.out⟩
theorem law_cuts (a b : List UInt8) (n : Int) (w : World) (h : a.length ≤ 140737488351232) (k : b.length ≤ 140737488351232) (n0 : -9223372036854775808 ≤ n) (n1 : n ≤ 9223372036854775807) : Calls Try.prog 4 #[.string (str a), .string (str b), .int .i64 n] w (Ret (.bool true) w) :=
  cuts_core (str a) (str b) (str (Pl.cut a n.toNat)) n (Pl.less a b) w
    (Lib.hid fun w => cut_str a n w (by omega) n0 n1) (Lib.hid fun w => (refCut_str a n w (by omega) n0 n1).mono fun e w' h => ret_of h)
    (Lib.hid fun w => less_str a b w (by omega) (by omega)) (Lib.hid fun w => (refLess_str a b w (by omega) (by omega)).mono fun e w' h => ret_of h)
end Go.Proofs.Ytodalljccjcejaa
