import Derived.Test.YtodalljccjcejaaRs
import Derived.Test.YtodalljccjcejaaKeys
import Derived.LoopTactic
namespace Go.Proofs.Ytodalljccjcejaa
open Go.RowKit
set_option linter.unusedVariables false

/-- a text behind its first n bytes, as the walk spells it -/
theorem extract_rest (l : List UInt8) (n : Nat) (z : Nat) (hz : z = l.length) : (str l).extract n z = str (l.drop n) := by
  subst hz
  rw [← str_size l, extract_back]; rfl

def szOf : Value → Nat
  | .string s => s.size
  | _ => 0

set_option maxHeartbeats 1000000 in
set_option maxRecDepth 100000 in
theorem refRunes_str (l : List UInt8) (w : World) (hs : l.length ≤ 281474976710656) :
    Calls Try.prog 12 #[.string (str l)] w fun e w' => e = .returned (.tuple #[.int .i64 ((Pl.runes l).length : Nat), .bool (Pl.okay l)]) ∧ w = w' := by
  have htot := Pl.runes_len l
  generalize hS : str l = S at *
  have HS := Lib.hid hS
  clear hS
  go_enter Try.func12, Try.ntmps12
  go_wp2_with fail
  go_loop [0, 4, 5] (fun t n v => ∃ (m : List UInt8) (k : Nat) (b : Bool), t = .string (str m) ∧ n = .int .i64 (k : Nat) ∧ v = .bool b ∧ m.length ≤ l.length ∧ k + (Pl.runes m).length = (Pl.runes l).length ∧ (b && Pl.okay m) = Pl.okay l) (fun t _ _ => szOf t)
  case atStart => exact ⟨l, 0, true, by rw [HS.out], rfl, rfl, Nat.le_refl _, by omega, by simp⟩
  case round =>
    obtain ⟨m, k, b, rfl, rfl, rfl, hm, hk, hb⟩ := hrel
    have hsz := str_size m
    by_cases hne : m = []
    · subst hne
      rw [Pl.okay_nil, Bool.and_true] at hb
      rw [Pl.runes_nil] at hk
      subst hb
      have HK := Lib.hid hk
      clear hk
      have e0 : str [] = (⟨#[]⟩ : ByteArray) := rfl
      rw [e0] at *
      go_wp2_with fail
      go_ret2
      refine ⟨?_, rfl⟩
      rw [← HK.out]
      rfl
    · have hbd := Pl.rune_bd m hne
      have c1 := Lib.hid (refRune_str m w hne (by omega))
      have HE := Lib.hid (extract_rest m (Pl.rune m).2.1 (str m).size hsz)
      rw [Pl.runes_cons hne, List.length_cons] at hk
      rw [Pl.okay_cons hne] at hb
      have HK := Lib.hid hk
      have HBB := Lib.hid hb
      have h0 : 0 < (str m).size := by omega
      have hle : (Pl.rune m).2.1 ≤ (str m).size := by omega
      have HD := Lib.hid (List.length_drop (i := (Pl.rune m).2.1) (l := m))
      have HSZ := Lib.hid hsz
      have hs2 : (str m).size ≤ 281474976710656 := by omega
      have hk2 : (k : Int) ≤ 281474976710656 := by omega
      have HW := Lib.hid hbd
      clear hk hb hsz
      generalize str m = M at *
      generalize hr : Pl.rune m = r at *
      clear hbd
      go_wp2_with fail
      refine c1.out.mono ?_
      rintro e w' ⟨rfl, rfl⟩
      go_wp2_with fail
      · have hb : b = true := by assumption
        subst hb
        have hd := HD.out
        have hkk := HK.out
        have hw := HW.out
        have hz := HSZ.out
        refine ⟨⟨m.drop r.2.1, k + 1, r.2.2, by rw [HE.out], rfl, rfl, by omega, by omega, by rw [← HBB.out]; rfl⟩, ?_⟩
        show (M.extract r.2.1 M.size).size < M.size
        rw [HE.out, str_size, hd]
        omega
      · have hb : ¬ b = true := by assumption
        have hb := Bool.eq_false_iff.2 hb
        subst hb
        have hd := HD.out
        have hkk := HK.out
        have hw := HW.out
        have hz := HSZ.out
        refine ⟨⟨m.drop r.2.1, k + 1, false, by rw [HE.out], rfl, rfl, by omega, by omega, by rw [← HBB.out]; rfl⟩, ?_⟩
        show (M.extract r.2.1 M.size).size < M.size
        rw [HE.out, str_size, hd]
        omega

set_option maxHeartbeats 1000000 in
set_option maxRecDepth 100000 in
theorem refLess_str (a b : List UInt8) (w : World) (hs : a.length ≤ 281474976710656) (hs2 : b.length ≤ 281474976710656) :
    Calls Try.prog 20 #[.string (str a), .string (str b)] w fun e w' => e = .returned (.bool (Pl.less a b)) ∧ w = w' := by
  generalize hA : str a = SA at *
  have HA := Lib.hid hA
  clear hA
  generalize hB : str b = SB at *
  have HB := Lib.hid hB
  clear hB
  go_enter Try.func20, Try.ntmps20
  go_wp2_with fail
  go_loop [0, 1] (fun t u => ∃ (m k : List UInt8), t = .string (str m) ∧ u = .string (str k) ∧ m.length ≤ a.length ∧ k.length ≤ b.length ∧ Pl.less m k = Pl.less a b) (fun t _ => szOf t)
  case atStart => exact ⟨a, b, by rw [HA.out], by rw [HB.out], Nat.le_refl _, Nat.le_refl _, rfl⟩
  case round =>
    obtain ⟨m, k, rfl, rfl, hm, hk, hl⟩ := hrel
    have HL := Lib.hid hl
    clear hl
    have e0 : str [] = (⟨#[]⟩ : ByteArray) := rfl
    by_cases hne : m = []
    · subst hne
      have hkz := str_size k
      have hki : (k.isEmpty = true ∧ (str k).size = 0) ∨ (k.isEmpty = false ∧ 0 < (str k).size) := by
        rw [hkz]; cases k with
        | nil => exact .inl ⟨rfl, rfl⟩
        | cons x r => exact .inr ⟨rfl, by simp⟩
      have HE := Lib.hid (less_of_nil k)
      rw [e0] at *
      generalize str k = K at *
      rcases hki with ⟨h1, h2⟩ | ⟨h1, h2⟩
      all_goals
        rw [h1] at HE
        clear hkz h1
        go_wp2_with fail
        go_ret
        exact ⟨ret_b (by rw [← HL.out, HE.out]; rfl), rfl⟩
    by_cases hnk : k = []
    · subst hnk
      have HE := Lib.hid (less_nil m)
      have hmz : 0 < (str m).size := by rw [str_size]; exact List.length_pos_iff.2 hne
      rw [e0] at *
      generalize str m = M at *
      go_wp2_with fail
      all_goals
        go_ret
        exact ⟨ret_b (by rw [← HL.out, HE.out]), rfl⟩
    · have hbd := Pl.rune_bd m hne
      have hbk := Pl.rune_bd k hnk
      have hzm := str_size m
      have hzk := str_size k
      have c1 := Lib.hid (refRune_str m w hne (by omega))
      have c2 := Lib.hid (refRune_str k w hnk (by omega))
      have HE := Lib.hid (extract_rest m (Pl.rune m).2.1 (str m).size hzm)
      have HF := Lib.hid (extract_rest k (Pl.rune k).2.1 (str k).size hzk)
      have HC := Lib.hid (less_cons hne hnk)
      have h0 : 0 < (str m).size := by omega
      have h1 : 0 < (str k).size := by omega
      have hle : (Pl.rune m).2.1 ≤ (str m).size := by omega
      have hlf : (Pl.rune k).2.1 ≤ (str k).size := by omega
      have HD := Lib.hid (show (m.drop (Pl.rune m).2.1).length + (Pl.rune m).2.1 = (str m).size ∧ (m.drop (Pl.rune m).2.1).length ≤ a.length ∧ 1 ≤ (Pl.rune m).2.1 by rw [List.length_drop]; omega)
      have HG := Lib.hid (show (k.drop (Pl.rune k).2.1).length ≤ b.length by rw [List.length_drop]; omega)
      have hs3 : (str m).size ≤ 281474976710656 := by omega
      have hs4 : (str k).size ≤ 281474976710656 := by omega
      unfold rest at HC
      clear hzm hzk hbd hbk e0
      generalize str m = M at *
      generalize str k = K at *
      generalize hr : Pl.rune m = r at *
      generalize hq : Pl.rune k = q at *
      go_wp2_with fail
      refine c1.out.mono ?_
      rintro e w' ⟨rfl, rfl⟩
      go_wp2_with fail
      refine c2.out.mono ?_
      rintro e w' ⟨rfl, rfl⟩
      go_wp2_with fail
      · have h : ((r.1 : Int) != (q.1 : Int)) = true := by assumption
        have h : ¬ r.1 = q.1 := by rw [bne_iff_ne] at h; omega
        go_ret
        refine ⟨ret_b ?_, rfl⟩
        rw [← HL.out, HC.out, if_neg h]
      · have h : ((r.1 : Int) != (q.1 : Int)) = false := by assumption
        have h : r.1 = q.1 := by have := bne_eq_false_iff_eq.1 h; omega
        have hd := HD.out
        refine ⟨⟨m.drop r.2.1, k.drop q.2.1, by rw [HE.out], by rw [HF.out], hd.2.1, HG.out, by rw [← HL.out, HC.out, if_pos h]⟩, ?_⟩
        show (M.extract r.2.1 M.size).size < M.size
        rw [HE.out, str_size]
        omega

set_option maxHeartbeats 1000000 in
set_option maxRecDepth 100000 in
theorem refCut_str (l : List UInt8) (n : Int) (w : World) (hs : l.length ≤ 281474976710656) (n0 : -9223372036854775808 ≤ n) (n1 : n ≤ 9223372036854775807) :
    Calls Try.prog 18 #[.string (str l), .int .i64 n] w fun e w' => e = .returned (.string (str (Pl.cut l n.toNat))) ∧ w = w' := by
  have hsz := str_size l
  have hL : ∀ p, L (str l) p = l.drop p := fun p => rfl
  generalize hS : str l = S at *
  have HS := Lib.hid hS
  clear hS
  go_enter Try.func18, Try.ntmps18
  go_wp2_with fail
  go_loop [1, 5] (fun v u => ∃ (pos : Nat) (m : Int), u = .int .i64 (pos : Nat) ∧ v = .int .i64 m ∧ -9223372036854775808 ≤ m ∧ m ≤ 9223372036854775807 ∧ l.take pos ++ Pl.cut (l.drop pos) m.toNat = Pl.cut l n.toNat ∧ pos ≤ l.length) (fun v _ => (Lib.intOf v).toNat)
  case atStart => exact ⟨0, n, rfl, rfl, n0, n1, by simp, by omega⟩
  case round =>
    obtain ⟨pos, m, rfl, rfl, m0, m1, hc, hle⟩ := hrel
    have HC := Lib.hid hc
    clear hc
    have hpz : pos ≤ S.size := by omega
    have hs2 : S.size ≤ 281474976710656 := by omega
    by_cases hm : m < 1
    · have hm0 : m ≤ 0 := by omega
      go_wp2_with fail
      go_ret
      refine ⟨ret_s ?_, rfl⟩
      rw [← HC.out, show m.toNat = 0 by omega, Pl.cut_zero, List.append_nil, extract_front, hL, List.drop_zero]
    have hm0 : 0 < m := by omega
    by_cases hp : pos < l.length
    · have hp2 : (pos : Int) < (S.size : Int) := by omega
      have hne : l.drop pos ≠ [] := by intro e; have := congrArg List.length e; rw [List.length_drop] at this; simp at this; omega
      have hbd := Pl.rune_bd (l.drop pos) hne
      rw [List.length_drop] at hbd
      have c1 := refRune_str (l.drop pos) w hne (by rw [List.length_drop]; omega)
      rw [← extract_rest l pos S.size hsz, HS.out] at c1
      have C1 := Lib.hid c1
      clear c1
      have hr2 : ((pos : Int) + ((Pl.rune (l.drop pos)).2.1 : Int)) ≤ 281474976710656 := by omega
      have HB := Lib.hid hbd
      have HX := Lib.hid (Pl.cut_succ hne (m.toNat - 1))
      have HZ := Lib.hid hsz
      have HP := Lib.hid hp
      clear hbd hL hm hp hne hsz hle
      generalize hr : Pl.rune (l.drop pos) = r at *
      go_wp2_with fail
      refine C1.out.mono ?_
      rintro e w' ⟨rfl, rfl⟩
      go_wp2_with fail
      have hb := HB.out
      have hp := HP.out
      refine ⟨⟨pos + r.2.1, m - 1, rfl, rfl, by omega, by omega, ?_, by omega⟩, by simp [Lib.intOf]; omega⟩
      have hx := HX.out
      rw [show m.toNat - 1 + 1 = m.toNat by omega] at hx
      rw [← HC.out, hx, List.take_add, List.drop_drop, List.append_assoc, show (m - 1).toNat = m.toNat - 1 by omega]
    · have hp2 : ¬ (pos : Int) < (S.size : Int) := by omega
      have hp3 : pos = S.size := by omega
      have HZ := Lib.hid hsz
      have HL := Lib.hid hL
      clear hL hsz hle hp hm
      go_wp2_with fail
      go_ret
      refine ⟨ret_s ?_, rfl⟩
      have hz := HZ.out
      rw [← HC.out, List.drop_eq_nil_of_le (by omega), Pl.cut_nil, List.append_nil, List.take_of_length_le (by omega), HS.out]
end Go.Proofs.Ytodalljccjcejaa
