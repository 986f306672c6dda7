import Derived.Test.YtodalljccjcejaaKeys
namespace Go.Proofs.Ytodalljccjcejaa
open Go.RowKit
set_option linter.unusedVariables false

theorem runes_len' (l : List UInt8) : (Pl.nums l).length = (Pl.runes l).length := by simp [Pl.nums]
/-- two texts, one behind the other, the first one right -/
theorem join_runes {a : List UInt8} (b : List UInt8) (h : Pl.okay a = true) : (Pl.runes (a ++ b)).length = (Pl.runes a).length + (Pl.runes b).length := by
  rw [Pl.runes_app a b h, List.length_append]
theorem less_app_left {a : List UInt8} (b : List UInt8) (h : Pl.okay a = true) : Pl.less (a ++ b) a = false := by
  unfold Pl.less; rw [Pl.nums_app b h]; exact Pl.lt_app_left _ _
theorem less_app {a : List UInt8} (b : List UInt8) (h : Pl.okay a = true) : Pl.less a (a ++ b) = !b.isEmpty := by
  unfold Pl.less; rw [Pl.nums_app b h, Pl.lt_app]
  cases b with
  | nil => rw [Pl.nums_nil]; rfl
  | cons x r => rw [Pl.nums_ne (by simp)]; rfl
theorem str_app (a b : List UInt8) : str a ++ str b = str (a ++ b) := by
  apply ext_str
  rw [ByteArray.data_append, Array.toList_append]
  rfl

theorem empty_str (l : List UInt8) : (str l).toList.isEmpty = l.isEmpty := by rw [ByteArray.toList_eq, list_str]

set_option maxRecDepth 100000 in
theorem law_joins (a b : List UInt8) (w : World) (ha : a.length ≤ 140737488351232) (hb' : b.length ≤ 140737488351232) : Calls Try.prog 9 #[.string (str a), .string (str b)] w (Ret (.bool true) w) := by
  have hab : (a ++ b).length ≤ 281474976710656 := by rw [List.length_append]; omega
  have hsa : (str a).size ≤ 140737488351232 := by rw [str_size]; exact ha
  have hsb : (str b).size ≤ 140737488351232 := by rw [str_size]; exact hb'
  have C1 := Lib.hid fun w => runes_str a w (by omega)
  have C2 := Lib.hid fun w => runes_str b w (by omega)
  have c3 := fun w => runes_str (a ++ b) w hab
  rw [← str_app] at c3
  by_cases hoa : Pl.okay a = true
  · have c1 := C1.out
    rw [hoa] at c1
    have C1 := Lib.hid c1
    by_cases hob : Pl.okay b = true
    · have c2 := C2.out
      rw [hob] at c2
      have hlen := Pl.runes_len (a ++ b)
      rw [Pl.okay_app b hoa, hob, join_runes b hoa] at c3
      rw [join_runes b hoa] at hlen
      have c4 := fun w => cut_str (a ++ b) ((Pl.runes a).length : Nat) w hab (by omega) (by omega)
      rw [Int.toNat_natCast, Pl.cut_app a b hoa, ← str_app] at c4
      have c5 := fun w => less_str (a ++ b) a w hab (by omega)
      rw [less_app_left b hoa, ← str_app] at c5
      have C2 := Lib.hid c2
      have C3 := Lib.hid c3
      have C4 := Lib.hid c4
      have C5 := Lib.hid c5
      have c6 := fun w => less_str a (a ++ b) w (by omega) hab
      rw [less_app b hoa, ← str_app] at c6
      clear c1 c2 c3 c4 c5
      by_cases hbe : b = []
      · subst hbe
        generalize (Pl.runes a).length = n at *
        rw [Pl.runes_nil] at C2 C3 hlen
        simp only [List.length_nil, Nat.add_zero] at hlen
        clear c6 hoa hob
        generalize str a = SA at *
        have e0 : str [] = (⟨#[]⟩ : ByteArray) := rfl
        rw [e0] at *
        have B0 := Lib.hid (Below.refl w.heap.size w)
        go_enter Try.func9, Try.ntmps9
        go_wp2_with fail
        refine (awake_any _).mono ?_
        rintro e w1 ⟨rfl, hb⟩
        have B1 := Lib.hid (B0.out.trans (hb.mono B0.out.size))
        clear hb
        go_wp2_with fail
        refine (C1.out _).mono ?_
        rintro e w2 ⟨rfl, hb⟩
        have B2 := Lib.hid (B1.out.trans (hb.mono B1.out.size))
        clear hb
        go_wp2_with fail
        refine (C2.out _).mono ?_
        rintro e w3 ⟨rfl, hb⟩
        have B3 := Lib.hid (B2.out.trans (hb.mono B2.out.size))
        clear hb
        go_wp2_with fail
        refine (C3.out _).mono ?_
        rintro e w4 ⟨rfl, hb⟩
        have B4 := Lib.hid (B3.out.trans (hb.mono B3.out.size))
        clear hb
        go_wp2_with fail
        refine (C4.out _).mono ?_
        rintro e w5 ⟨rfl, hb⟩
        have B5 := Lib.hid (B4.out.trans (hb.mono B4.out.size))
        clear hb
        go_wp2_with fail
        refine (C5.out _).mono ?_
        rintro e w6 ⟨rfl, hb⟩
        have B6 := Lib.hid (B5.out.trans (hb.mono B5.out.size))
        clear hb
        go_wp2_with fail
        go_ret
        exact ⟨rfl, B6.out⟩
      · have hne : (str b).toList.isEmpty = false := by rw [empty_str, List.isEmpty_eq_false_iff]; exact hbe
        have hbi : b.isEmpty = false := List.isEmpty_eq_false_iff.2 hbe
        rw [hbi] at c6
        have C6 := Lib.hid c6
        have hnm : (Pl.runes a).length + (Pl.runes b).length ≤ 281474976710656 := by omega
        clear c6 hoa hob hbe hbi hlen hab
        generalize (Pl.runes a).length = n at *
        generalize (Pl.runes b).length = m at *
        generalize str a = SA at *
        generalize str b = SB at *
        have B0 := Lib.hid (Below.refl w.heap.size w)
        go_enter Try.func9, Try.ntmps9
        go_wp2_with fail
        refine (awake_any _).mono ?_
        rintro e w1 ⟨rfl, hb⟩
        have B1 := Lib.hid (B0.out.trans (hb.mono B0.out.size))
        clear hb
        go_wp2_with fail
        refine (C1.out _).mono ?_
        rintro e w2 ⟨rfl, hb⟩
        have B2 := Lib.hid (B1.out.trans (hb.mono B1.out.size))
        clear hb
        go_wp2_with fail
        refine (C2.out _).mono ?_
        rintro e w3 ⟨rfl, hb⟩
        have B3 := Lib.hid (B2.out.trans (hb.mono B2.out.size))
        clear hb
        go_wp2_with fail
        refine (C3.out _).mono ?_
        rintro e w4 ⟨rfl, hb⟩
        have B4 := Lib.hid (B3.out.trans (hb.mono B3.out.size))
        clear hb
        go_wp2_with fail
        refine (C4.out _).mono ?_
        rintro e w5 ⟨rfl, hb⟩
        have B5 := Lib.hid (B4.out.trans (hb.mono B4.out.size))
        clear hb
        go_wp2_with fail
        refine (C5.out _).mono ?_
        rintro e w6 ⟨rfl, hb⟩
        have B6 := Lib.hid (B5.out.trans (hb.mono B5.out.size))
        clear hb
        go_wp2_with fail
        refine (C6.out _).mono ?_
        rintro e w7 ⟨rfl, hb⟩
        have B7 := Lib.hid (B6.out.trans (hb.mono B6.out.size))
        clear hb
        go_wp2_with fail
        go_ret
        exact ⟨rfl, B7.out⟩
    · have c2 := C2.out
      rw [Bool.eq_false_iff.2 hob] at c2
      have C2 := Lib.hid c2
      have C3 := Lib.hid c3
      clear c1 c2 c3
      have B0 := Lib.hid (Below.refl w.heap.size w)
      go_enter Try.func9, Try.ntmps9
      go_wp2_with fail
      refine (awake_any _).mono ?_
      rintro e w1 ⟨rfl, hb⟩
      have B1 := Lib.hid (B0.out.trans (hb.mono B0.out.size))
      clear hb
      go_wp2_with fail
      refine (C1.out _).mono ?_
      rintro e w2 ⟨rfl, hb⟩
      have B2 := Lib.hid (B1.out.trans (hb.mono B1.out.size))
      clear hb
      go_wp2_with fail
      refine (C2.out _).mono ?_
      rintro e w3 ⟨rfl, hb⟩
      have B3 := Lib.hid (B2.out.trans (hb.mono B2.out.size))
      clear hb
      go_wp2_with fail
      refine (C3.out _).mono ?_
      rintro e w4 ⟨rfl, hb⟩
      have B4 := Lib.hid (B3.out.trans (hb.mono B3.out.size))
      clear hb
      go_wp2_with fail
      go_ret
      exact ⟨rfl, B4.out⟩
  · have c1 := C1.out
    rw [Bool.eq_false_iff.2 hoa] at c1
    have C1 := Lib.hid c1
    have C3 := Lib.hid c3
    clear c1 c3
    generalize hob : Pl.okay b = ob at *
    have B0 := Lib.hid (Below.refl w.heap.size w)
    go_enter Try.func9, Try.ntmps9
    go_wp2_with fail
    refine (awake_any _).mono ?_
    rintro e w1 ⟨rfl, hb⟩
    have B1 := Lib.hid (B0.out.trans (hb.mono B0.out.size))
    clear hb
    go_wp2_with fail
    refine (C1.out _).mono ?_
    rintro e w2 ⟨rfl, hb⟩
    have B2 := Lib.hid (B1.out.trans (hb.mono B1.out.size))
    clear hb
    go_wp2_with fail
    refine (C2.out _).mono ?_
    rintro e w3 ⟨rfl, hb⟩
    have B3 := Lib.hid (B2.out.trans (hb.mono B2.out.size))
    clear hb
    go_wp2_with fail
    refine (C3.out _).mono ?_
    rintro e w4 ⟨rfl, hb⟩
    have B4 := Lib.hid (B3.out.trans (hb.mono B3.out.size))
    clear hb
    go_wp2_with fail
    go_ret
    exact ⟨rfl, B4.out⟩
end Go.Proofs.Ytodalljccjcejaa
