import Derived.Test.YtodalljccjcejaaRt
import Derived.Test.YtodalljccjcejaaCase
namespace Go.Proofs.Ytodalljccjcejaa
open Go.RowKit
set_option linter.unusedVariables false

theorem alw_is (c : Nat) : (alw c = true ∧ 33 ≤ (c : Int) ∧ ¬ (127 ≤ (c : Int) ∧ (c : Int) ≤ 160) ∧ (c : Int) ≠ 8232 ∧ (c : Int) ≠ 8233 ∧ (c : Int) ≠ 65533) ∨ (alw c = false ∧ ((c : Int) < 33 ∨ (127 ≤ (c : Int) ∧ (c : Int) ≤ 160) ∨ (c : Int) = 8232 ∨ (c : Int) = 8233 ∨ (c : Int) = 65533)) := by
  have h := alw_iff c
  cases hc : alw c
  · right
    rw [hc] at h
    refine ⟨rfl, ?_⟩
    by_cases q : (33 ≤ c ∧ ¬ (127 ≤ c ∧ c ≤ 160) ∧ c ≠ 8232 ∧ c ≠ 8233 ∧ c ≠ 65533)
    · exact absurd (h.2 q) (by decide)
    · omega
  · left
    have := h.1 hc
    exact ⟨rfl, by omega, by omega, by omega, by omega, by omega⟩

set_option maxHeartbeats 2000000 in
set_option maxRecDepth 100000 in
theorem refMay_str (l : List UInt8) (w : World) (hs : l.length ≤ 281474976710656) :
    Calls Try.prog 16 #[.string (str l)] w fun e w' => e = .returned (.bool (may l)) ∧ w = w' := by
  have HM := Lib.hid (may_iff l)
  have HO := Lib.hid (alw_okay l)
  have c1 := Lib.hid (refRunes_str l w hs)
  by_cases hl : l = []
  · subst hl
    have e1 : may [] = false := by decide +kernel
    have e2 : (Pl.runes []).length = 0 := by rw [Pl.runes_nil]; rfl
    rw [e2] at c1
    rw [e1]
    generalize str [] = S at *
    go_enter Try.func16, Try.ntmps16
    go_wp2_with fail
    refine c1.out.mono ?_
    rintro e w' ⟨rfl, rfl⟩
    go_wp2_with fail
    go_ret
    exact ⟨rfl, rfl⟩
  have hz := str_size l
  have h0 : 0 < (str l).size := by rw [hz]; exact List.length_pos_iff.2 hl
  have hg : ((str l)[0]'h0).toNat = Pl.g l 0 := (g_at (s := str l) h0).symm
  have hrl : 1 ≤ (Pl.runes l).length := by rw [Pl.runes_cons hl]; simp
  have hrs := Pl.runes_len l
  have hgl := Pl.g_le l 0
  generalize may l = M at *
  generalize hT : (Pl.runes l).length = T at *
  generalize Pl.g l 0 = x0 at *
  generalize hok : Pl.okay l = O at *
  generalize hS : str l = S at *
  have HS := Lib.hid hS
  clear hS
  have hx1 : (x0 : Int) ≤ 255 := by omega
  by_cases h24 : 24 < (T : Int)
  · go_enter Try.func16, Try.ntmps16
    go_wp2_with fail
    refine c1.out.mono ?_
    rintro e w' ⟨rfl, rfl⟩
    go_wp2_with fail
    go_ret
    exact ⟨ret_f (fun h => by have := HM.out.1 h; omega), rfl⟩
  cases O with
  | false =>
    go_enter Try.func16, Try.ntmps16
    go_wp2_with fail
    refine c1.out.mono ?_
    rintro e w' ⟨rfl, rfl⟩
    go_wp2_with fail
    go_ret
    refine ⟨ret_f (fun h => ?_), rfl⟩
    have := HO.out (HM.out.1 h).2.2.1
    cases this
  | true =>
    by_cases hd : (x0 : Int) = 45
    · go_enter Try.func16, Try.ntmps16
      go_wp2_with fail
      refine c1.out.mono ?_
      rintro e w' ⟨rfl, rfl⟩
      go_wp2_with fail
      go_ret
      exact ⟨ret_f (fun h => by have := HM.out.1 h; omega), rfl⟩
    · have HE := Lib.hid (show M = (Pl.nums l).all alw by rw [Bool.eq_iff_iff, HM.out]; exact ⟨fun h => h.2.2.1, fun h => ⟨hrl, by omega, h, by omega⟩⟩)
      have HZ := Lib.hid hz
      have hdb : ((x0 : Int) == 45) = false := beq_eq_false_iff_ne.2 hd
      have h24' : (T : Int) ≤ 24 := by omega
      have h1' : 1 ≤ (T : Int) := by omega
      clear HM hok hT hz hd h24
      go_enter Try.func16, Try.ntmps16
      go_wp2_with fail
      refine c1.out.mono ?_
      rintro e w' ⟨rfl, rfl⟩
      go_wp2_with fail
      go_loop [0] (fun t => ∃ (m : List UInt8), t = .string (str m) ∧ m.length ≤ l.length ∧ (Pl.nums m).all alw = (Pl.nums l).all alw) (fun t => szOf t)
      case atStart => exact ⟨l, by rw [HS.out], Nat.le_refl _, rfl⟩
      case round =>
        obtain ⟨m, rfl, hm, ha⟩ := hrel
        by_cases hne : m = []
        · subst hne
          rw [Pl.nums_nil] at ha
          have HA := Lib.hid ha
          have e0 : str [] = (⟨#[]⟩ : ByteArray) := rfl
          rw [e0] at *
          clear ha
          go_wp2_with fail
          go_ret
          exact ⟨ret_b (by rw [HE.out, ← HA.out]; rfl), rfl⟩
        · have hbd := Pl.rune_bd m hne
          have hzm := str_size m
          have c2 := Lib.hid (refRune_str m w hne (by omega))
          have HX := Lib.hid (extract_rest m (Pl.rune m).2.1 (str m).size hzm)
          rw [Pl.nums_cons hne, List.all_cons] at ha
          have HA := Lib.hid ha
          have h0m : 0 < (str m).size := by omega
          have hle : (Pl.rune m).2.1 ≤ (str m).size := by omega
          have hs3 : (str m).size ≤ 281474976710656 := by omega
          have HD := Lib.hid (show (m.drop (Pl.rune m).2.1).length + (Pl.rune m).2.1 = (str m).size ∧ (m.drop (Pl.rune m).2.1).length ≤ l.length ∧ 1 ≤ (Pl.rune m).2.1 by rw [List.length_drop]; omega)
          have hal := alw_is (Pl.rune m).1
          clear ha hzm hbd
          generalize str m = Q at *
          generalize hr : Pl.rune m = r at *
          have HAL := Lib.hid hal
          clear hal
          go_wp2_with fail
          refine c2.out.mono ?_
          rintro e w' ⟨rfl, rfl⟩
          go_wp2_with fail
          all_goals
            try simp only [beq_iff_eq, beq_eq_false_iff_ne] at *
            rcases HAL.out with ⟨q, q1, q2, q3, q4, q5⟩ | ⟨q, q1⟩
            all_goals
              first
                | (exfalso; omega)
                | (go_ret
                   refine ⟨ret_f ?_, rfl⟩
                   rw [HE.out, ← HA.out, q]
                   simp)
                | (have hd := HD.out
                   refine ⟨⟨m.drop r.2.1, by rw [HX.out], hd.2.1, by rw [← HA.out, q, Bool.true_and]⟩, ?_⟩
                   show (Q.extract r.2.1 Q.size).size < Q.size
                   rw [HX.out, str_size]
                   omega)

theorem at_step {l m : List UInt8} {i : Nat} {x : UInt8} (hat : ∀ j, m[j]? = if j < i then (key l)[j]? else l[j]?) (hx : m[i]? = some x) : ∀ j, (m.set i (lowB x))[j]? = if j < i + 1 then (key l)[j]? else l[j]? := by
  intro j
  have hi : i < m.length := (List.getElem?_eq_some_iff.1 hx).1
  have hl : l[i]? = some x := by have := hat i; rw [if_neg (by omega), hx] at this; exact this.symm
  by_cases e : i = j
  · subst e
    rw [List.getElem?_set_self hi, if_pos (by omega)]
    unfold key
    rw [List.getElem?_map, hl]
    rfl
  · rw [List.getElem?_set_ne e, hat j]
    by_cases h : j < i
    · rw [if_pos h, if_pos (by omega)]
    · rw [if_neg h, if_neg (by omega)]
theorem set_same {m : List UInt8} {i : Nat} {x : UInt8} (hx : m[i]? = some x) : m.set i x = m := by
  apply List.ext_getElem?
  intro j
  by_cases e : i = j
  · subst e
    rw [List.getElem?_set_self (List.getElem?_eq_some_iff.1 hx).1, hx]
  · rw [List.getElem?_set_ne e]
theorem lowB_up {x : UInt8} (h : 65 ≤ x.toNat) (k : x.toNat ≤ 90) : (x.toNat : Int) + 32 = ((lowB x).toNat : Int) := by
  rw [lowB_nat]
  have := lowN_is x.toNat
  omega
theorem lowB_id {x : UInt8} (h : ¬ (65 ≤ x.toNat ∧ x.toNat ≤ 90)) : lowB x = x := if_neg h

set_option maxHeartbeats 4000000 in
set_option maxRecDepth 100000 in
theorem refKey_str (l : List UInt8) (w : World) (hs : l.length ≤ 140737488351232) :
    Calls Try.prog 14 #[.string (str l)] w (Ret (.tuple #[.string (str (keyOf l)), .int .i64 (errOf l)]) w) := by
  have c1 := refMay_str l w (by omega)
  by_cases hm : may l = true
  · rw [show keyOf l = key l from if_pos hm, show errOf l = 0 from if_pos hm]
    rw [hm] at c1
    have hsz := str_size l
    have hnew := RowAt.new w l
    generalize hS : str l = SA at *
    have HS := Lib.hid hS
    clear hS
    have C1 := Lib.hid c1
    clear c1
    have hcv := run_bytes_of_string (P := Try.prog) w 9 35 5 SA Try.underlying9 Try.underlying35 Try.underlying5
    have HN := Lib.hid (hnew (grownCap w SA.size 0 5))
    clear hnew
    have BA := Lib.hid (((Below.refl w.heap.size w).drew).alloc (Nat.le_refl _) (.cells (bytesRow SA (grownCap w SA.size 0 5)) 5 ((bytesRow SA (grownCap w SA.size 0 5)).size, (bytesRow SA (grownCap w SA.size 0 5)).size + 1)))
    generalize hg : w.heap.size = g at *
    generalize grownCap w SA.size 0 5 = cap at *
    generalize (w.drew.alloc (.cells (bytesRow SA cap) 5 ((bytesRow SA cap).size, (bytesRow SA cap).size + 1))) = W2 at *
    generalize hn : SA.size = n at *
    subst hsz
    go_enter Try.func14, Try.ntmps14
    go_wp2_with fail
    refine C1.out.mono ?_
    rintro e w' ⟨rfl, rfl⟩
    go_wp2_with fail
    go_loopw [5] (fun c wr => ∃ (i : Nat) (m : List UInt8), c = .int .i64 (i : Nat) ∧ i ≤ l.length ∧ RowAt wr g m ∧ m.length = l.length ∧ (∀ j, m[j]? = if j < i then (key l)[j]? else l[j]?) ∧ Below g w wr) (fun c _ => l.length - (Lib.intOf c).toNat)
    case atStart => exact ⟨0, l, rfl, by omega, HN.out, rfl, fun j => by rw [if_neg (by omega)], BA.out⟩
    case round =>
      obtain ⟨i, m, rfl, hi, hrow, hml, hat, hbw⟩ := hrel
      have HROW := Lib.hid hrow
      have HAT := Lib.hid hat
      have HBW := Lib.hid hbw
      clear hrow hat hbw
      by_cases hin : i < l.length
      · obtain ⟨x, hx⟩ : ∃ x, m[i]? = some x := ⟨_, List.getElem?_eq_getElem (by omega)⟩
        obtain ⟨hc, hf⟩ := HROW.out.cell hx
        have hxl := x.toNat_lt
        have HML := Lib.hid hml
        clear hml
        go_wp2_with fail
        all_goals
          first
            | (have hu : 65 ≤ x.toNat ∧ x.toNat ≤ 90 := by omega
               rw [lowB_up hu.1 hu.2]
               exact ⟨⟨i + 1, m.set i (lowB x), rfl, by omega, HROW.out.set (by have := HML.out; omega) _, by rw [List.length_set]; exact HML.out, at_step HAT.out hx, HBW.out.setCell (p := ⟨g, i, none⟩) (Nat.le_refl g) _⟩, by simp [Lib.intOf]; omega⟩)
            | (have hu : ¬ (65 ≤ x.toNat ∧ x.toNat ≤ 90) := by omega
               have ht := at_step HAT.out hx
               rw [lowB_id hu, set_same hx] at ht
               exact ⟨⟨i + 1, m, rfl, by omega, HROW.out, HML.out, ht, HBW.out⟩, by simp [Lib.intOf]; omega⟩)
      · have HML := Lib.hid hml
        clear hml
        have hcs := HROW.out.text l.length cap HML.out.symm
        go_wp2_with fail
        go_ret2
        have e : m = key l := by
          apply List.ext_getElem?
          intro j
          rw [HAT.out j]
          by_cases hj : j < i
          · rw [if_pos hj]
          · rw [if_neg hj, List.getElem?_eq_none (by omega), List.getElem?_eq_none (by rw [key_len]; omega)]
        rw [e]
        exact ⟨rfl, by rw [hg]; exact HBW.out⟩
  · rw [show keyOf l = [] from if_neg hm, show errOf l = 5 from if_neg hm]
    rw [Bool.eq_false_iff.2 hm] at c1
    generalize str l = S at *
    have C1 := Lib.hid c1
    clear c1
    go_enter Try.func14, Try.ntmps14
    go_wp2_with fail
    refine C1.out.mono ?_
    rintro e w' ⟨rfl, rfl⟩
    go_wp2_with fail
    go_ret2
    exact ⟨rfl, Below.refl _ _⟩
end Go.Proofs.Ytodalljccjcejaa
