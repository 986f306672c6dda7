import Derived.Test.YtjpnkecfoealoaaNc
import Derived.Test.YtjpnkecfoealoaaNd
import Derived.LoopTactic
namespace Go.Proofs.Ytjpnkecfoealoaa.Nm
open Go.RowKit
set_option linter.unusedVariables false

set_option maxHeartbeats 1000000 in
set_option maxRecDepth 100000 in
theorem refLess_str (a b : List UInt8) (w : World) (hs : a.length ≤ 281474976710656) (hs2 : b.length ≤ 281474976710656) :
    Calls Try.prog 40 #[.string (str a), .string (str b)] w fun e w' => e = .returned (.bool (Pl.less a b)) ∧ w = w' := by
  generalize hA : str a = SA at *
  have HA := Lib.hid hA
  clear hA
  generalize hB : str b = SB at *
  have HB := Lib.hid hB
  clear hB
  go_enter Try.func40, Try.ntmps40
  go_wp2_with fail
  go_loop [0, 1] (fun t u => ∃ (m k : List UInt8), t = .string (str m) ∧ u = .string (str k) ∧ m.length ≤ a.length ∧ k.length ≤ b.length ∧ Pl.less m k = Pl.less a b) (fun t _ => szOf t)
  case atStart => exact ⟨a, b, by rw [HA.out], by rw [HB.out], Nat.le_refl _, Nat.le_refl _, rfl⟩
  case round =>
    obtain ⟨m, k, rfl, rfl, hm, hk, hl⟩ := hrel
    have HL := Lib.hid hl
    clear hl
    have e0 : str [] = (⟨#[]⟩ : ByteArray) := rfl
    by_cases hne : m = []
    · subst hne
      have hkz := str_size k
      have hki : (k.isEmpty = true ∧ (str k).size = 0) ∨ (k.isEmpty = false ∧ 0 < (str k).size) := by
        rw [hkz]; cases k with
        | nil => exact .inl ⟨rfl, rfl⟩
        | cons x r => exact .inr ⟨rfl, by simp⟩
      have HE := Lib.hid (less_of_nil k)
      rw [e0] at *
      generalize str k = K at *
      rcases hki with ⟨h1, h2⟩ | ⟨h1, h2⟩
      all_goals
        rw [h1] at HE
        clear hkz h1
        go_wp2_with fail
        go_ret
        exact ⟨ret_b (by rw [← HL.out, HE.out]; rfl), rfl⟩
    by_cases hnk : k = []
    · subst hnk
      have HE := Lib.hid (less_nil m)
      have hmz : 0 < (str m).size := by rw [str_size]; exact List.length_pos_iff.2 hne
      rw [e0] at *
      generalize str m = M at *
      go_wp2_with fail
      all_goals
        go_ret
        exact ⟨ret_b (by rw [← HL.out, HE.out]), rfl⟩
    · have hbd := Pl.rune_bd m hne
      have hbk := Pl.rune_bd k hnk
      have hzm := str_size m
      have hzk := str_size k
      have c1 := Lib.hid (refRune_str m w hne (by omega))
      have c2 := Lib.hid (refRune_str k w hnk (by omega))
      have HE := Lib.hid (extract_rest m (Pl.rune m).2.1 (str m).size hzm)
      have HF := Lib.hid (extract_rest k (Pl.rune k).2.1 (str k).size hzk)
      have HC := Lib.hid (less_cons hne hnk)
      have h0 : 0 < (str m).size := by omega
      have h1 : 0 < (str k).size := by omega
      have hle : (Pl.rune m).2.1 ≤ (str m).size := by omega
      have hlf : (Pl.rune k).2.1 ≤ (str k).size := by omega
      have HD := Lib.hid (show (m.drop (Pl.rune m).2.1).length + (Pl.rune m).2.1 = (str m).size ∧ (m.drop (Pl.rune m).2.1).length ≤ a.length ∧ 1 ≤ (Pl.rune m).2.1 by rw [List.length_drop]; omega)
      have HG := Lib.hid (show (k.drop (Pl.rune k).2.1).length ≤ b.length by rw [List.length_drop]; omega)
      have hs3 : (str m).size ≤ 281474976710656 := by omega
      have hs4 : (str k).size ≤ 281474976710656 := by omega
      unfold rest at HC
      clear hzm hzk hbd hbk e0
      generalize str m = M at *
      generalize str k = K at *
      generalize hr : Pl.rune m = r at *
      generalize hq : Pl.rune k = q at *
      go_wp2_with fail
      refine c1.out.mono ?_
      rintro e w' ⟨rfl, rfl⟩
      go_wp2_with fail
      refine c2.out.mono ?_
      rintro e w' ⟨rfl, rfl⟩
      go_wp2_with fail
      · have h : ((r.1 : Int) != (q.1 : Int)) = true := by assumption
        have h : ¬ r.1 = q.1 := by rw [bne_iff_ne] at h; omega
        go_ret
        refine ⟨ret_b ?_, rfl⟩
        rw [← HL.out, HC.out, if_neg h]
      · have h : ((r.1 : Int) != (q.1 : Int)) = false := by assumption
        have h : r.1 = q.1 := by have := bne_eq_false_iff_eq.1 h; omega
        have hd := HD.out
        refine ⟨⟨m.drop r.2.1, k.drop q.2.1, by rw [HE.out], by rw [HF.out], hd.2.1, HG.out, by rw [← HL.out, HC.out, if_pos h]⟩, ?_⟩
        show (M.extract r.2.1 M.size).size < M.size
        rw [HE.out, str_size]
        omega

end Go.Proofs.Ytjpnkecfoealoaa.Nm
