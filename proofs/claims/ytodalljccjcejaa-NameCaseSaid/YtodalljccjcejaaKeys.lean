import Derived.Test.YtodalljccjcejaaAwake
namespace Go.Proofs.Ytodalljccjcejaa
open Go.RowKit
set_option linter.unusedVariables false

/-! the contracts at a text that is given as bytes -/
theorem key_str (l : List UInt8) (w : World) (h : l.length ≤ 281474976710656) : Calls Try.prog 13 #[.string (str l)] w (Ret (.tuple #[.string (str (keyOf l)), .int .i64 (errOf l)]) w) := key_any (str l) w (by rw [str_size]; exact h)
theorem may_str (l : List UInt8) (w : World) (h : l.length ≤ 281474976710656) : Calls Try.prog 15 #[.string (str l)] w (Ret (.bool (may l)) w) := may_any (str l) w (by rw [str_size]; exact h)
theorem runes_str (l : List UInt8) (w : World) (h : l.length ≤ 281474976710656) : Calls Try.prog 11 #[.string (str l)] w (Ret (.tuple #[.int .i64 ((Pl.runes l).length : Nat), .bool (Pl.okay l)]) w) := runes_any (str l) w (by rw [str_size]; exact h)
theorem cut_str (l : List UInt8) (n : Int) (w : World) (h : l.length ≤ 281474976710656) (n0 : -9223372036854775808 ≤ n) (n1 : n ≤ 9223372036854775807) : Calls Try.prog 17 #[.string (str l), .int .i64 n] w (Ret (.string (str (Pl.cut l n.toNat))) w) := cut_any (str l) n w (by rw [str_size]; exact h) n0 n1
theorem less_str (a b : List UInt8) (w : World) (h : a.length ≤ 281474976710656) (k : b.length ≤ 281474976710656) : Calls Try.prog 19 #[.string (str a), .string (str b)] w (Ret (.bool (Pl.less a b)) w) := less_any (str a) (str b) w (by rw [str_size]; exact h) (by rw [str_size]; exact k)

set_option maxRecDepth 100000 in
theorem law_keys (l : List UInt8) (w : World) (h : l.length ≤ 281474976710656) : Calls Try.prog 5 #[.string (str l)] w (Ret (.bool true) w) := by
  by_cases hm : may l = true
  · have e1 : keyOf l = key l := if_pos hm
    have e2 : errOf l = 0 := if_pos hm
    have e3 : keyOf (key l) = key l := by unfold keyOf; rw [may_key, if_pos hm, key_key]
    have e4 : errOf (key l) = 0 := by unfold errOf; rw [may_key, if_pos hm]
    have e5 : may (key l) = true := by rw [may_key, hm]
    have e6 : (Pl.runes (key l)).length = (Pl.runes l).length := by rw [runes_key, List.length_map]
    have e7 : Pl.okay l = true := may_okay hm
    have e8 : Pl.okay (key l) = true := by rw [okay_key, e7]
    have e9 : (Pl.runes l).length ≤ 24 := ((may_iff l).1 hm).2.1
    have h2 : (key l).length ≤ 281474976710656 := by rw [key_len]; exact h
    have e10 : (str (key l)).size = (str l).size := by rw [str_size, str_size, key_len]
    have c1 := fun w => key_str l w h
    have c2 := fun w => may_str l w h
    have c3 := fun w => key_str (key l) w h2
    have c4 := fun w => runes_str l w h
    have c5 := fun w => runes_str (key l) w h2
    have c6 := fun w => may_str (key l) w h2
    rw [e1, e2] at c1
    rw [hm] at c2
    rw [e3, e4] at c3
    rw [e7] at c4
    rw [e6, e8] at c5
    rw [e5] at c6
    clear e1 e2 e3 e4 e5 e6 e7 e8 h2 hm
    generalize (Pl.runes l).length = n at *
    generalize str (key l) = K at *
    generalize str l = S at *
    have C1 := Lib.hid c1
    have C2 := Lib.hid c2
    have C3 := Lib.hid c3
    have C4 := Lib.hid c4
    have C5 := Lib.hid c5
    have C6 := Lib.hid c6
    have B0 := Lib.hid (Below.refl w.heap.size w)
    clear c1 c2 c3 c4 c5 c6
    go_enter Try.func5, Try.ntmps5
    go_wp2_with fail
    refine (awake_any _).mono ?_
    rintro e w1 ⟨rfl, hb⟩
    have B1 := Lib.hid (B0.out.trans (hb.mono B0.out.size))
    clear hb
    go_wp2_with fail
    refine (C1.out _).mono ?_
    rintro e w2 ⟨rfl, hb⟩
    have B2 := Lib.hid (B1.out.trans (hb.mono B1.out.size))
    clear hb
    go_wp2_with fail
    refine (C2.out _).mono ?_
    rintro e w3 ⟨rfl, hb⟩
    have B3 := Lib.hid (B2.out.trans (hb.mono B2.out.size))
    clear hb
    go_wp2_with fail
    refine (C3.out _).mono ?_
    rintro e w4 ⟨rfl, hb⟩
    have B4 := Lib.hid (B3.out.trans (hb.mono B3.out.size))
    clear hb
    go_wp2_with fail
    refine (C4.out _).mono ?_
    rintro e w5 ⟨rfl, hb⟩
    have B5 := Lib.hid (B4.out.trans (hb.mono B4.out.size))
    clear hb
    go_wp2_with fail
    refine (C5.out _).mono ?_
    rintro e w6 ⟨rfl, hb⟩
    have B6 := Lib.hid (B5.out.trans (hb.mono B5.out.size))
    clear hb
    go_wp2_with fail
    refine (C6.out _).mono ?_
    rintro e w7 ⟨rfl, hb⟩
    have B7 := Lib.hid (B6.out.trans (hb.mono B6.out.size))
    clear hb
    go_wp2_with fail
    go_ret
    exact ⟨ret_b (decide_eq_true (by omega)), B7.out⟩
  · have e1 : keyOf l = [] := if_neg hm
    have e2 : errOf l = 5 := if_neg hm
    have c1 := fun w => key_str l w h
    have c2 := fun w => may_str l w h
    rw [e1, e2, show str [] = (⟨#[]⟩ : ByteArray) from rfl] at c1
    rw [Bool.eq_false_iff.2 hm] at c2
    clear e1 e2 hm
    generalize str l = S at *
    have C1 := Lib.hid c1
    have C2 := Lib.hid c2
    clear c1 c2
    have B0 := Lib.hid (Below.refl w.heap.size w)
    go_enter Try.func5, Try.ntmps5
    go_wp2_with fail
    refine (awake_any _).mono ?_
    rintro e w1 ⟨rfl, hb⟩
    have B1 := Lib.hid (B0.out.trans (hb.mono B0.out.size))
    clear hb
    go_wp2_with fail
    refine (C1.out _).mono ?_
    rintro e w2 ⟨rfl, hb⟩
    have B2 := Lib.hid (B1.out.trans (hb.mono B1.out.size))
    clear hb
    go_wp2_with fail
    refine (C2.out _).mono ?_
    rintro e w3 ⟨rfl, hb⟩
    have B3 := Lib.hid (B2.out.trans (hb.mono B2.out.size))
    clear hb
    go_wp2_with fail
    go_ret
    exact ⟨rfl, B3.out⟩
theorem law_keys' (l : List UInt8) (w : World) (h : l.length ≤ 140737488351232) : Calls Try.prog 5 #[.string (str l)] w (Ret (.bool true) w) := law_keys l w (by omega)
end Go.Proofs.Ytodalljccjcejaa
