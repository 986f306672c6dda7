import Derived.Test.YtodalljccjcejaaJoins
namespace Go.Proofs.Ytodalljccjcejaa
open Go.RowKit
set_option linter.unusedVariables false

theorem nums_cut (l : List UInt8) (n : Nat) : Pl.nums (Pl.cut l n) = (Pl.nums l).take n := by
  unfold Pl.nums; rw [Pl.runes_cut, List.map_take]
theorem cut_ge {l : List UInt8} (h : l ≠ []) {n : Nat} (hn : 1 ≤ n) : 1 ≤ Pl.wd ((Pl.runes l).take n) := by
  obtain ⟨k, rfl⟩ : ∃ k, n = k + 1 := ⟨n - 1, by omega⟩
  have := Pl.rune_bd l h
  rw [Pl.runes_cons h, List.take_succ_cons]
  simp only [Pl.wd]
  omega
theorem may_cut {l : List UInt8} (h : may l = true) {n : Nat} (hn : 1 ≤ n) : may (Pl.cut l n) = true := by
  rw [may_iff] at h ⊢
  have hl : l ≠ [] := by rintro rfl; rw [Pl.runes_nil] at h; simp at h
  rw [nums_cut, Pl.runes_cut, List.length_take]
  refine ⟨by omega, by omega, ?_, ?_⟩
  · rw [List.all_eq_true] at h ⊢
    exact fun x hx => h.2.2.1 x (List.mem_of_mem_take hx)
  · unfold Pl.cut
    rw [Pl.g_take (by have := cut_ge hl hn; omega)]
    exact h.2.2.2
theorem cut_le (l : List UInt8) (n : Nat) : (Pl.cut l n).length ≤ l.length := by unfold Pl.cut; rw [List.length_take]; omega
theorem cut_front (l : List UInt8) (n : Nat) : l.take (Pl.cut l n).length = Pl.cut l n := by
  rw [Pl.cut_len]; rfl

set_option maxHeartbeats 4000000 in
set_option maxRecDepth 100000 in
theorem parts_core (S A M : ByteArray) (n m : Int) (T K : Nat) (is was may1 may2 : Bool) (w : World) (hs : S.size ≤ 4096) (hsa : A.size ≤ S.size) (n0 : -9223372036854775808 ≤ n) (n1 : n ≤ 9223372036854775807) (m0 : -9223372036854775808 ≤ m) (m1 : m ≤ 9223372036854775807)
    (hT : T ≤ 4096) (hK : K = min n.toNat T) (hA : S.extract 0 A.size = A) (F : may1 = true → 1 ≤ n → may2 = true)
    (C1 : Hid (∀ w, Calls Try.prog 11 #[.string S] w (Ret (.tuple #[.int .i64 (T : Nat), .bool is]) w)))
    (C2 : Hid (∀ w, Calls Try.prog 17 #[.string S, .int .i64 n] w (Ret (.string A) w)))
    (C3 : Hid (∀ w, Calls Try.prog 11 #[.string A] w (Ret (.tuple #[.int .i64 (K : Nat), .bool was]) w)))
    (C4 : Hid (∀ w, Calls Try.prog 17 #[.string A, .int .i64 m] w (Ret (.string M) w)))
    (C5 : Hid (∀ w, Calls Try.prog 17 #[.string S, .int .i64 (min n m)] w (Ret (.string M) w)))
    (C6 : Hid (∀ w, Calls Try.prog 15 #[.string S] w (Ret (.bool may1) w)))
    (C7 : Hid (∀ w, Calls Try.prog 15 #[.string A] w (Ret (.bool may2) w))) :
    Calls Try.prog 7 #[.string S, .int .i64 n, .int .i64 m] w (Ret (.bool true) w) := by
  cases may1 with
  | false =>
    have B0 := Lib.hid (Below.refl w.heap.size w)
    go_enter Try.func7, Try.ntmps7
    go_wp2_with fail
    refine (awake_any _).mono ?_
    rintro e w1 ⟨rfl, hb⟩
    have B1 := Lib.hid (B0.out.trans (hb.mono B0.out.size))
    clear hb
    go_wp2_with fail
    refine (C1.out _).mono ?_
    rintro e w2 ⟨rfl, hb⟩
    have B2 := Lib.hid (B1.out.trans (hb.mono B1.out.size))
    clear hb
    go_wp2_with fail
    refine (C2.out _).mono ?_
    rintro e w3 ⟨rfl, hb⟩
    have B3 := Lib.hid (B2.out.trans (hb.mono B2.out.size))
    clear hb
    go_wp2_with fail
    refine (C3.out _).mono ?_
    rintro e w4 ⟨rfl, hb⟩
    have B4 := Lib.hid (B3.out.trans (hb.mono B3.out.size))
    clear hb
    go_wp2_with fail
    refine (C4.out _).mono ?_
    rintro e w5 ⟨rfl, hb⟩
    have B5 := Lib.hid (B4.out.trans (hb.mono B4.out.size))
    clear hb
    go_wp2_with fail
    refine (C5.out _).mono ?_
    rintro e w6 ⟨rfl, hb⟩
    have B6 := Lib.hid (B5.out.trans (hb.mono B5.out.size))
    clear hb
    go_wp2_with fail
    refine (C6.out _).mono ?_
    rintro e w7 ⟨rfl, hb⟩
    have B7 := Lib.hid (B6.out.trans (hb.mono B6.out.size))
    clear hb
    go_wp2_with fail
    go_ret
    exact ⟨rfl, B7.out⟩
  | true =>
    by_cases hn : n < 1
    · clear F
      have B0 := Lib.hid (Below.refl w.heap.size w)
      go_enter Try.func7, Try.ntmps7
      go_wp2_with fail
      refine (awake_any _).mono ?_
      rintro e w1 ⟨rfl, hb⟩
      have B1 := Lib.hid (B0.out.trans (hb.mono B0.out.size))
      clear hb
      go_wp2_with fail
      refine (C1.out _).mono ?_
      rintro e w2 ⟨rfl, hb⟩
      have B2 := Lib.hid (B1.out.trans (hb.mono B1.out.size))
      clear hb
      go_wp2_with fail
      refine (C2.out _).mono ?_
      rintro e w3 ⟨rfl, hb⟩
      have B3 := Lib.hid (B2.out.trans (hb.mono B2.out.size))
      clear hb
      go_wp2_with fail
      refine (C3.out _).mono ?_
      rintro e w4 ⟨rfl, hb⟩
      have B4 := Lib.hid (B3.out.trans (hb.mono B3.out.size))
      clear hb
      go_wp2_with fail
      refine (C4.out _).mono ?_
      rintro e w5 ⟨rfl, hb⟩
      have B5 := Lib.hid (B4.out.trans (hb.mono B4.out.size))
      clear hb
      go_wp2_with fail
      refine (C5.out _).mono ?_
      rintro e w6 ⟨rfl, hb⟩
      have B6 := Lib.hid (B5.out.trans (hb.mono B5.out.size))
      clear hb
      go_wp2_with fail
      refine (C6.out _).mono ?_
      rintro e w7 ⟨rfl, hb⟩
      have B7 := Lib.hid (B6.out.trans (hb.mono B6.out.size))
      clear hb
      go_wp2_with fail
      go_ret
      exact ⟨rfl, B7.out⟩
    · have F' := F rfl (by omega)
      subst F'
      clear F
      have B0 := Lib.hid (Below.refl w.heap.size w)
      go_enter Try.func7, Try.ntmps7
      go_wp2_with fail
      refine (awake_any _).mono ?_
      rintro e w1 ⟨rfl, hb⟩
      have B1 := Lib.hid (B0.out.trans (hb.mono B0.out.size))
      clear hb
      go_wp2_with fail
      refine (C1.out _).mono ?_
      rintro e w2 ⟨rfl, hb⟩
      have B2 := Lib.hid (B1.out.trans (hb.mono B1.out.size))
      clear hb
      go_wp2_with fail
      refine (C2.out _).mono ?_
      rintro e w3 ⟨rfl, hb⟩
      have B3 := Lib.hid (B2.out.trans (hb.mono B2.out.size))
      clear hb
      go_wp2_with fail
      refine (C3.out _).mono ?_
      rintro e w4 ⟨rfl, hb⟩
      have B4 := Lib.hid (B3.out.trans (hb.mono B3.out.size))
      clear hb
      go_wp2_with fail
      refine (C4.out _).mono ?_
      rintro e w5 ⟨rfl, hb⟩
      have B5 := Lib.hid (B4.out.trans (hb.mono B4.out.size))
      clear hb
      go_wp2_with fail
      refine (C5.out _).mono ?_
      rintro e w6 ⟨rfl, hb⟩
      have B6 := Lib.hid (B5.out.trans (hb.mono B5.out.size))
      clear hb
      go_wp2_with fail
      refine (C6.out _).mono ?_
      rintro e w7 ⟨rfl, hb⟩
      have B7 := Lib.hid (B6.out.trans (hb.mono B6.out.size))
      clear hb
      go_wp2_with fail
      refine (C7.out _).mono ?_
      rintro e w8 ⟨rfl, hb⟩
      have B8 := Lib.hid (B7.out.trans (hb.mono B7.out.size))
      clear hb
      go_wp2_with fail
      go_ret
      exact ⟨rfl, B8.out⟩

set_option maxRecDepth 100000 in
theorem long_core (S : ByteArray) (n m : Int) (w : World) (hs : ¬ S.size ≤ 4096) (hs2 : S.size ≤ 140737488351232) :
    Calls Try.prog 7 #[.string S, .int .i64 n, .int .i64 m] w (Ret (.bool true) w) := by
  have B0 := Lib.hid (Below.refl w.heap.size w)
  go_enter Try.func7, Try.ntmps7
  go_wp2_with fail
  refine (awake_any _).mono ?_
  rintro e w1 ⟨rfl, hb⟩
  have B1 := Lib.hid (B0.out.trans (hb.mono B0.out.size))
  clear hb
  go_wp2_with fail
  go_ret
  exact ⟨rfl, B1.out⟩

theorem law_parts (l : List UInt8) (n m : Int) (w : World) (h : l.length ≤ 140737488351232) (n0 : -9223372036854775808 ≤ n) (n1 : n ≤ 9223372036854775807) (m0 : -9223372036854775808 ≤ m) (m1 : m ≤ 9223372036854775807) :
    Calls Try.prog 7 #[.string (str l), .int .i64 n, .int .i64 m] w (Ret (.bool true) w) := by
  by_cases hl : l.length ≤ 4096
  · have hc := cut_le l n.toNat
    have hr := Pl.runes_len l
    have hcc : Pl.cut (Pl.cut l n.toNat) m.toNat = Pl.cut l (min n m).toNat := by
      rw [Pl.cut_cut]; congr 1; omega
    refine parts_core (str l) (str (Pl.cut l n.toNat)) (str (Pl.cut (Pl.cut l n.toNat) m.toNat)) n m (Pl.runes l).length (Pl.runes (Pl.cut l n.toNat)).length (Pl.okay l) (Pl.okay (Pl.cut l n.toNat)) (may l) (may (Pl.cut l n.toNat)) w
      (by rw [str_size]; exact hl) (by rw [str_size, str_size]; exact hc) n0 n1 m0 m1 (by omega) (by rw [Pl.runes_cut, List.length_take]) ?_ (fun a b => may_cut a (by omega))
      (Lib.hid fun w => runes_str l w (by omega)) (Lib.hid fun w => cut_str l n w (by omega) n0 n1) (Lib.hid fun w => runes_str _ w (by omega)) (Lib.hid fun w => cut_str _ m w (by omega) m0 m1) (Lib.hid fun w => ?_)
      (Lib.hid fun w => may_str l w (by omega)) (Lib.hid fun w => may_str _ w (by omega))
    · rw [str_size, extract_front, L_zero, list_str, cut_front]
    · rw [hcc]
      exact cut_str l (min n m) w (by omega) (by omega) (by omega)
  · exact long_core (str l) n m w (by rw [str_size]; exact hl) (by rw [str_size]; exact h)
end Go.Proofs.Ytodalljccjcejaa
