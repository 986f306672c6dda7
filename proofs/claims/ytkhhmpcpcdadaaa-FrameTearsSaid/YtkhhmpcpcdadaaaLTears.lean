import Derived.Test.YtkhhmpcpcdadaaaZe
import Derived.Test.YtkhhmpcpcdadaaaFt
import Derived.StillTailTactics
import Derived.IntWalk
namespace Go.Proofs.Ytkhhmpcpcdadaaa
open Go.RowKit
set_option linter.unusedVariables false

def TRel (ls ms : List (List UInt8)) (w : World) (av iv : Value) (wr : World) : Prop :=
  ∃ i : Nat, i ≤ ms.length ∧ i ≤ ls.length ∧ ms.take i = ls.take i ∧ iv = .int .i64 i ∧ av = .int .i64 ((Fr.flat (ls.take i)).length : Nat) ∧ Below w.heap.size w wr
set_option maxRecDepth 20000 in
theorem law_tears6 (ls : List (List UInt8)) (A : Option Addr) (n c : Nat) (kp : Int) (zf : Bool) (w : World) (h1 : RoArg w A n c ls) (k0 : 0 ≤ kp) (k1 : kp ≤ 65535) :
    Calls Try.prog 6 #[.slice A n c, .int .u16 kp, .bool zf] w (RetBelow (.bool true) w) := by
  obtain ⟨kn, rfl⟩ := Int.eq_ofNat_of_zero_le k0
  have hnc := h1.le
  have hcc := h1.cap
  have H1 := Lib.hid h1
  clear h1 k0
  go_enter Try.func6, Try.ntmps6
  go_wp2_with fail
  refine (awake_any _).mono ?_
  rintro e w1 ⟨rfl, hb1⟩
  have B1 := Lib.hid hb1
  have h1 := H1.out.below hb1
  have I1 := Lib.hid h1
  clear hb1 h1 H1
  by_cases q1 : 60 < n
  · go_wp2_with fail
    go_ret
    exact ⟨rfl, B1.out⟩
  by_cases q3 : 65536 < Fr.tot ls
  · have hT := total_big (c := c) I1.out.at_ I1.out.len (by omega) q3
    clear q3
    go_wp2_with (go_at_call 16; refine hT.mono ?_; rintro e w' ⟨rfl, t, ht, rfl⟩)
    go_ret
    exact ⟨rfl, B1.out⟩
  have hT := total_small (c := c) I1.out.at_ I1.out.len (by omega) (by omega)
  have htot : (Fr.tot ls : Int) ≤ 65536 := by omega
  have HTOT : Hid (Fr.tot ls ≤ 65536) := Lib.hid (by omega)
  have hW := whole_any ls A n c w1.heap.size w1 (Nat.le_refl _) I1.out.at_ I1.out.len (by omega) (by omega)
  have hn60 : n ≤ 60 := by omega
  have hz60 : ¬ (60 : Int) < n := by omega
  have hd60 : decide ((60 : Int) < n) = false := by simp; omega
  clear q3 q1
  generalize hTT : Fr.tot ls = T at hT htot
  have hdT : decide ((65536 : Int) < T) = false := by simp; omega
  clear hTT
  go_wp2_with (go_at_call 16; refine hT.mono ?_; rintro e w' ⟨rfl, rfl⟩)
  refine hW.mono ?_
  clear hT hW
  rintro e w2 ⟨hb2, hcase⟩
  have B2 := Lib.hid (B1.out.trans (hb2.mono B1.out.size))
  have J1 := Lib.hid (I1.out.below hb2)
  have hs12 := hb2.size
  clear hb2 I1
  rcases hcase with ⟨ok, Ab, cb, rfl, own⟩ | ⟨_, rfl⟩
  · have OK := Lib.hid ok
    have hfl := Fr.flat_take_bd ls n (by rw [J1.out.len]; exact hn60) HTOT.out
    rw [List.take_of_length_le (by rw [J1.out.len]; omega)] at hfl
    obtain ⟨z, hz⟩ : ∃ z, z = (Fr.flat ls).length := ⟨_, rfl⟩
    have OB : Hid (OwnB w2 w1.heap.size (.slice Ab z cb) (Fr.flat ls)) := Lib.hid (by rw [hz]; exact own)
    rw [← hz] at hfl ⊢
    have HZ : Hid ((Fr.flat ls).length = z) := Lib.hid hz.symm
    clear hz own ok
    obtain ⟨A', c', e', hbb, hzc, hc3⟩ := OB.out.form
    rw [HZ.out] at e' hzc
    obtain ⟨rfl, rfl⟩ : A' = Ab ∧ c' = cb := by injection e' with x1 x2 x3; exact ⟨x1.symm, x3.symm⟩
    have hAn : A' = none → c' = 0 := fun e => by
      subst e
      rcases OB.out.2 with ⟨q, _⟩ | ⟨g, cap, cur, q, _⟩
      · injection q
      · injection q with q; cases q
    obtain ⟨K, hK⟩ : ∃ K : Nat, K = min kn z := ⟨_, rfl⟩
    have hKz : K ≤ z := by omega
    have hmi : (if (z : Int) < (kn : Int) then (z : Int) else (kn : Int)) = (K : Int) := by split <;> omega
    have hmi2 : (if z < kn then (z : Int) else (kn : Int)) = (K : Int) := by split <;> omega
    have hKc : (K : Int) ≤ c' := by omega
    have hKzi : (K : Int) ≤ z := by omega
    have HKT : Hid (((Fr.flat ls).take K).length = K) := Lib.hid (by rw [List.length_take, HZ.out]; omega)
    have HA := Lib.hid hAn
    have HBB := Lib.hid ((hbb.take K).below ((Below.refl w2.heap.size w2).alloc (Nat.le_refl _) (.cells #[] 5)))
    have OW2 := Lib.hid (OwnB.new w2)
    clear hAn hbb e' hK
    cases zf with
    | false =>
      go_wp2_with (first
        | (at_builtin; (refine wp_appB rfl (.tmp 37) (.tmp 40) rfl w2.heap.size _ [] rfl OW2.out A' K c' _ ((Fr.flat ls).take K) rfl HA.out HBB.out HKT.out (by omega) (by simp; omega) (by rw [World.size_alloc]; omega) ?_); intro v3 w3 own3 bel3
           rw [List.nil_append] at own3
           have B3 := Lib.hid ((((Below.refl w2.heap.size w2).alloc (Nat.le_refl _) (.cells #[] 5)).trans bel3))
           have HTT : Hid (((Fr.flat ls).take K).take K = (Fr.flat ls).take K) := Lib.hid (by rw [List.take_take, Nat.min_self])
           obtain ⟨A5, c5, e5, hb5, h5, h5'⟩ := own3.form
           rw [HKT.out] at e5 h5
           subst e5
           have hKX : K ≤ K := Nat.le_refl _
           have hXz : K ≤ z := hKz
           have HB5 := Lib.hid hb5
           have HTL := Lib.hid HKT.out
           clear own3 bel3 hb5))
      obtain ⟨TL, hTL⟩ : ∃ TL, TL = ((Fr.flat ls).take K) := ⟨_, rfl⟩
      replace HTT : Hid (TL.take K = (Fr.flat ls).take K) := Lib.hid (by rw [hTL]; exact HTT.out)
      replace HTL : Hid (TL.length = K) := Lib.hid (by rw [hTL]; exact HTL.out)
      replace HB5 : Hid (BytesAt w3 w3.heap.size A5 TL) := Lib.hid (by rw [hTL]; exact HB5.out)
      clear hTL
      obtain ⟨ms, hms⟩ : ∃ ms, ms = (Fr.scan TL).1 := ⟨_, rfl⟩
      obtain ⟨nn, hnn⟩ : ∃ nn, nn = (Fr.scan TL).2 := ⟨_, rfl⟩
      obtain ⟨j, hj⟩ : ∃ j, j = ms.length := ⟨_, rfl⟩
      have SC : Hid (Fr.scan TL = (ms, nn)) := Lib.hid (by rw [hms, hnn])
      have hle := Fr.scan_le TL.length TL (Nat.le_refl _)
      have hro := Fr.scan_rows2 TL.length TL (Nat.le_refl _)
      rw [← hms, ← hnn, ← hj] at hro
      rw [← hnn, HTL.out] at hle
      have HJ : Hid (ms.length = j) := Lib.hid hj.symm
      have HWH : Hid (∀ i l, i ≤ j → ms.take i = ls.take i → ls[i]? = some l → (Fr.flat (ls.take i)).length + (8 + l.length) ≤ K → ms[i]? = some l) := Lib.hid (fun i l h1 h2 h3 h4 => by
        have := Fr.tear_whole OK.out HTT.out (i := i) (by rw [← hms, ← hj]; exact h1) (by rw [← hms]; exact h2) h3 h4
        rwa [← hms] at this)
      clear hms hnn hj
      refine (scan_at (j := j) HB5.out HTL.out (by omega) h5 h5' SC.out HJ.out).mono ?_
      rintro e w5 ⟨bel5, A6, c6, rfl, hjc, _, hr6⟩
      have R6 := Lib.hid hr6
      have B5a := Lib.hid (B3.out.trans (bel5.mono B3.out.size))
      have J5 := Lib.hid (J1.out.below B5a.out)
      have B5 := Lib.hid (B2.out.trans (B5a.out.mono B2.out.size))
      have hnX : ¬ ((K : Nat) : Int) < (nn : Int) := by omega
      have hdX : decide (((K : Nat) : Int) < (nn : Int)) = false := by simp; omega
      have hdX2 : decide (K < nn) = false := by simp; omega
      clear bel5 hr6 hmi hmi2
      go_wp2_with fail
      go_loopw [13, 60] (TRel ls ms w5) (fun _ i _ => j - (intOf i).toNat)
      case atStart => exact ⟨0, by omega, by omega, by rw [List.take_zero, List.take_zero], rfl, rfl, Below.refl _ _⟩
      case round =>
        obtain ⟨i, hi1, hi2, het, rfl, rfl, bel⟩ := hrel
        have BE := Lib.hid bel
        have HET := Lib.hid het
        have hij : i ≤ j := by rw [HJ.out] at hi1; exact hi1
        have hin : i ≤ n := by rw [J5.out.len] at hi2; exact hi2
        have hfi := Fr.flat_take_le ls i
        rw [HZ.out] at hfi
        clear bel het hi1 hi2
        by_cases hil : i < n
        · have hils : i < ls.length := by rw [J5.out.len]; exact hil
          have hl : ls[i]? = some ls[i] := List.getElem?_eq_getElem hils
          have hne : ls ≠ [] := fun e => by rw [e] at hils; simp at hils
          obtain ⟨b, off, rfl, hb, hat⟩ := (J5.out.at_.keep fun q hq => BE.out.block q hq) hne
          obtain ⟨v, x1, x2⟩ := hat i _ hl
          have hcv := fun q => (x2.keep (w' := wr.drewN q) fun q _ => rfl).conv
          obtain ⟨A9, c9, rfl, y1, y2, y3, y4⟩ := x2
          have HW1 := Lib.hid (HWH.out i _ hij HET.out hl)
          have HF : Hid ((Fr.flat (ls.take (i + 1))).length = (Fr.flat (ls.take i)).length + (8 + ls[i].length)) := Lib.hid (by rw [Fr.flat_step hl, List.length_append, Fr.rcd_length])
          have hfs := Fr.flat_take_le ls (i + 1)
          rw [HZ.out, HF.out] at hfs
          have i0 : (0 : Int) ≤ (i : Int) := by omega
          have i1 : (i : Int) < n := by omega
          have i2 : ¬ (n : Int) ≤ (i : Int) := by omega
          clear hat hne y3 y4
          by_cases hlt : i < j
          · have hims : i < ms.length := by rw [HJ.out]; exact hlt
            have hm : ms[i]? = some ms[i] := List.getElem?_eq_getElem hims
            have hne2 : ms ≠ [] := fun e => by rw [e] at hims; simp at hims
            obtain ⟨b', off', rfl, hb', hat'⟩ := (R6.out.keep fun q hq => BE.out.block q hq) hne2
            obtain ⟨v', z1, z2⟩ := hat' i _ hm
            have hcv' := fun q => (z2.keep (w' := wr.drewN q) fun q _ => rfl).conv
            have i3 : (i : Int) < j := by omega
            clear hat' hne2 z2
            by_cases heq : ms[i] = ls[i]
            · have HTS := Lib.hid (Fr.take_step HET.out (by rw [hm, heq]) hl)
              rw [heq] at hcv'
              clear hl hm heq HW1
              generalize ls[i] = l at *
              clear hims hils
              generalize hx : l.length = x at *
              clear hx
              generalize (Fr.flat (ls.take i)).length = a at *
              go_wp2_with fail
              go_quiet (fail)
              go_wp2_with fail
              go_roundw
              case rel => exact ⟨i + 1, by rw [HJ.out]; omega, by rw [J5.out.len]; omega, HTS.out, by go_num, by rw [HF.out]; go_num, BE.out.trans ⟨rfl, rfl, rfl, Nat.le_refl _, fun _ _ => rfl⟩⟩
              case measure => simp [intOf]; omega
            · have hgt : K < (Fr.flat (ls.take i)).length + (8 + ls[i].length) := by
                rcases Nat.lt_or_ge K ((Fr.flat (ls.take i)).length + (8 + ls[i].length)) with h | h
                · exact h
                · have := HW1.out h
                  rw [hm] at this
                  injection this with this
                  exact absurd this heq
              clear hl hm HW1
              have t1 : (ms[i] == ls[i]) = false := by rw [beq_eq_false_iff_ne]; exact heq
              have t2 : (!ms[i] == ls[i]) = true := by rw [t1]; rfl
              clear heq
              generalize ms[i] = m at *
              generalize ls[i] = l at *
              clear hims hils
              generalize hx : l.length = x at *
              clear hx
              generalize (Fr.flat (ls.take i)).length = a at *
              have hgi : (K : Int) < (a : Int) + 8 + x := by omega
              go_wp2_with fail
              go_quiet (fail)
              have hgd : decide ((K : Int) < (a : Int) + 8 + x) = true := by simp; omega
              go_wp2_with fail
              go_ret
              exact ⟨by simp, B5.out.trans ((BE.out.mono B5.out.size).trans ⟨rfl, rfl, rfl, Nat.le_refl _, fun _ _ => rfl⟩)⟩
          · obtain rfl : i = j := by omega
            have hgt : K < (Fr.flat (ls.take i)).length + (8 + ls[i].length) := by
              rcases Nat.lt_or_ge K ((Fr.flat (ls.take i)).length + (8 + ls[i].length)) with h | h
              · exact h
              · have := (List.getElem?_eq_some_iff.1 (HW1.out h)).1
                rw [HJ.out] at this
                omega
            have t1 : ((i : Int) == (n : Int)) = false := by rw [beq_eq_false_iff_ne]; omega
            clear hl HW1
            generalize ls[i] = l at *
            clear hils
            generalize hx : l.length = x at *
            clear hx
            generalize (Fr.flat (ls.take i)).length = a at *
            have hgi : (K : Int) < (a : Int) + 8 + x := by omega
            have hgd : decide ((K : Int) < (a : Int) + 8 + x) = true := by simp; omega
            go_wp2_with fail
            go_ret
            exact ⟨by simp, B5.out.trans (BE.out.mono B5.out.size)⟩
        · obtain rfl : i = n := by omega
          have e : ls.take i = ls := List.take_of_length_le (by rw [J5.out.len]; omega)
          have hK2 : (K : Int) ≤ ((Fr.flat (ls.take i)).length : Int) := by rw [e, HZ.out]; omega
          have hK3 : decide ((K : Int) ≤ ((Fr.flat (ls.take i)).length : Int)) = true := by simp; omega
          clear e
          generalize (Fr.flat (ls.take i)).length = a at *
          by_cases hlt : i < j
          · go_wp2_with fail
            go_ret
            exact ⟨by simp, B5.out.trans (BE.out.mono B5.out.size)⟩
          · obtain rfl : i = j := by omega
            go_wp2_with fail
            go_ret
            exact ⟨by simp, B5.out.trans (BE.out.mono B5.out.size)⟩
    | true =>
      have hzk : (z : Int) - (K : Int) = ((z - K : Nat) : Int) := by omega
      have hD : K + (z - K) = z := by omega
      have HD := Lib.hid hD
      clear hD
      generalize z - K = D at *
      go_wp2_with (first
        | (at_builtin; (refine wp_appB rfl (.tmp 37) (.tmp 40) rfl w2.heap.size _ [] rfl OW2.out A' K c' _ ((Fr.flat ls).take K) rfl HA.out HBB.out HKT.out (by omega) (by simp; omega) (by rw [World.size_alloc]; omega) ?_); intro v3 w3 own3 bel3
           rw [List.nil_append] at own3
           have OW3 := Lib.hid own3
           have B3a := Lib.hid ((((Below.refl w2.heap.size w2).alloc (Nat.le_refl _) (.cells #[] 5)).trans bel3))
           have hs3 : w2.heap.size ≤ w3.heap.size := B3a.out.size
           clear own3 bel3)
        | (at_builtin; (refine wp_appZ rfl (.tmp 43) (.tmp 47) rfl w2.heap.size _ ((Fr.flat ls).take K) rfl OW3.out D rfl (by rw [HKT.out]; have := HD.out; omega) hs3 ?_); intro v4 w3 own4 bel4
           have B3 := Lib.hid (B3a.out.trans bel4)
           have HTT : Hid (((Fr.flat ls).take K ++ List.replicate D 0).take K = (Fr.flat ls).take K) := Lib.hid (by rw [List.take_append_of_le_length (by rw [HKT.out]; omega), List.take_take, Nat.min_self])
           have HTL : Hid (((Fr.flat ls).take K ++ List.replicate D 0).length = z) := Lib.hid (by rw [List.length_append, HKT.out, List.length_replicate]; exact HD.out)
           obtain ⟨A5, c5, e5, hb5, h5, h5'⟩ := own4.form
           rw [HTL.out] at e5 h5
           subst e5
           have hKX : K ≤ z := hKz
           have hXz : z ≤ z := Nat.le_refl _
           have HB5 := Lib.hid hb5
           clear own4 bel4 hb5))
      obtain ⟨TL, hTL⟩ : ∃ TL, TL = ((Fr.flat ls).take K ++ List.replicate D 0) := ⟨_, rfl⟩
      replace HTT : Hid (TL.take K = (Fr.flat ls).take K) := Lib.hid (by rw [hTL]; exact HTT.out)
      replace HTL : Hid (TL.length = z) := Lib.hid (by rw [hTL]; exact HTL.out)
      replace HB5 : Hid (BytesAt w3 w3.heap.size A5 TL) := Lib.hid (by rw [hTL]; exact HB5.out)
      clear hTL
      obtain ⟨ms, hms⟩ : ∃ ms, ms = (Fr.scan TL).1 := ⟨_, rfl⟩
      obtain ⟨nn, hnn⟩ : ∃ nn, nn = (Fr.scan TL).2 := ⟨_, rfl⟩
      obtain ⟨j, hj⟩ : ∃ j, j = ms.length := ⟨_, rfl⟩
      have SC : Hid (Fr.scan TL = (ms, nn)) := Lib.hid (by rw [hms, hnn])
      have hle := Fr.scan_le TL.length TL (Nat.le_refl _)
      have hro := Fr.scan_rows2 TL.length TL (Nat.le_refl _)
      rw [← hms, ← hnn, ← hj] at hro
      rw [← hnn, HTL.out] at hle
      have HJ : Hid (ms.length = j) := Lib.hid hj.symm
      have HWH : Hid (∀ i l, i ≤ j → ms.take i = ls.take i → ls[i]? = some l → (Fr.flat (ls.take i)).length + (8 + l.length) ≤ K → ms[i]? = some l) := Lib.hid (fun i l h1 h2 h3 h4 => by
        have := Fr.tear_whole OK.out HTT.out (i := i) (by rw [← hms, ← hj]; exact h1) (by rw [← hms]; exact h2) h3 h4
        rwa [← hms] at this)
      clear hms hnn hj
      refine (scan_at (j := j) HB5.out HTL.out (by omega) h5 h5' SC.out HJ.out).mono ?_
      rintro e w5 ⟨bel5, A6, c6, rfl, hjc, _, hr6⟩
      have R6 := Lib.hid hr6
      have B5a := Lib.hid (B3.out.trans (bel5.mono B3.out.size))
      have J5 := Lib.hid (J1.out.below B5a.out)
      have B5 := Lib.hid (B2.out.trans (B5a.out.mono B2.out.size))
      have hnX : ¬ ((z : Nat) : Int) < (nn : Int) := by omega
      have hdX : decide (((z : Nat) : Int) < (nn : Int)) = false := by simp; omega
      have hdX2 : decide (z < nn) = false := by simp; omega
      clear bel5 hr6 hmi hmi2
      go_wp2_with fail
      go_loopw [13, 60] (TRel ls ms w5) (fun _ i _ => j - (intOf i).toNat)
      case atStart => exact ⟨0, by omega, by omega, by rw [List.take_zero, List.take_zero], rfl, rfl, Below.refl _ _⟩
      case round =>
        obtain ⟨i, hi1, hi2, het, rfl, rfl, bel⟩ := hrel
        have BE := Lib.hid bel
        have HET := Lib.hid het
        have hij : i ≤ j := by rw [HJ.out] at hi1; exact hi1
        have hin : i ≤ n := by rw [J5.out.len] at hi2; exact hi2
        have hfi := Fr.flat_take_le ls i
        rw [HZ.out] at hfi
        clear bel het hi1 hi2
        by_cases hil : i < n
        · have hils : i < ls.length := by rw [J5.out.len]; exact hil
          have hl : ls[i]? = some ls[i] := List.getElem?_eq_getElem hils
          have hne : ls ≠ [] := fun e => by rw [e] at hils; simp at hils
          obtain ⟨b, off, rfl, hb, hat⟩ := (J5.out.at_.keep fun q hq => BE.out.block q hq) hne
          obtain ⟨v, x1, x2⟩ := hat i _ hl
          have hcv := fun q => (x2.keep (w' := wr.drewN q) fun q _ => rfl).conv
          obtain ⟨A9, c9, rfl, y1, y2, y3, y4⟩ := x2
          have HW1 := Lib.hid (HWH.out i _ hij HET.out hl)
          have HF : Hid ((Fr.flat (ls.take (i + 1))).length = (Fr.flat (ls.take i)).length + (8 + ls[i].length)) := Lib.hid (by rw [Fr.flat_step hl, List.length_append, Fr.rcd_length])
          have hfs := Fr.flat_take_le ls (i + 1)
          rw [HZ.out, HF.out] at hfs
          have i0 : (0 : Int) ≤ (i : Int) := by omega
          have i1 : (i : Int) < n := by omega
          have i2 : ¬ (n : Int) ≤ (i : Int) := by omega
          clear hat hne y3 y4
          by_cases hlt : i < j
          · have hims : i < ms.length := by rw [HJ.out]; exact hlt
            have hm : ms[i]? = some ms[i] := List.getElem?_eq_getElem hims
            have hne2 : ms ≠ [] := fun e => by rw [e] at hims; simp at hims
            obtain ⟨b', off', rfl, hb', hat'⟩ := (R6.out.keep fun q hq => BE.out.block q hq) hne2
            obtain ⟨v', z1, z2⟩ := hat' i _ hm
            have hcv' := fun q => (z2.keep (w' := wr.drewN q) fun q _ => rfl).conv
            have i3 : (i : Int) < j := by omega
            clear hat' hne2 z2
            by_cases heq : ms[i] = ls[i]
            · have HTS := Lib.hid (Fr.take_step HET.out (by rw [hm, heq]) hl)
              rw [heq] at hcv'
              clear hl hm heq HW1
              generalize ls[i] = l at *
              clear hims hils
              generalize hx : l.length = x at *
              clear hx
              generalize (Fr.flat (ls.take i)).length = a at *
              go_wp2_with fail
              go_quiet (fail)
              go_wp2_with fail
              go_roundw
              case rel => exact ⟨i + 1, by rw [HJ.out]; omega, by rw [J5.out.len]; omega, HTS.out, by go_num, by rw [HF.out]; go_num, BE.out.trans ⟨rfl, rfl, rfl, Nat.le_refl _, fun _ _ => rfl⟩⟩
              case measure => simp [intOf]; omega
            · have hgt : K < (Fr.flat (ls.take i)).length + (8 + ls[i].length) := by
                rcases Nat.lt_or_ge K ((Fr.flat (ls.take i)).length + (8 + ls[i].length)) with h | h
                · exact h
                · have := HW1.out h
                  rw [hm] at this
                  injection this with this
                  exact absurd this heq
              clear hl hm HW1
              have t1 : (ms[i] == ls[i]) = false := by rw [beq_eq_false_iff_ne]; exact heq
              have t2 : (!ms[i] == ls[i]) = true := by rw [t1]; rfl
              clear heq
              generalize ms[i] = m at *
              generalize ls[i] = l at *
              clear hims hils
              generalize hx : l.length = x at *
              clear hx
              generalize (Fr.flat (ls.take i)).length = a at *
              have hgi : (K : Int) < (a : Int) + 8 + x := by omega
              go_wp2_with fail
              go_quiet (fail)
              have hgd : decide ((K : Int) < (a : Int) + 8 + x) = true := by simp; omega
              go_wp2_with fail
              go_ret
              exact ⟨by simp, B5.out.trans ((BE.out.mono B5.out.size).trans ⟨rfl, rfl, rfl, Nat.le_refl _, fun _ _ => rfl⟩)⟩
          · obtain rfl : i = j := by omega
            have hgt : K < (Fr.flat (ls.take i)).length + (8 + ls[i].length) := by
              rcases Nat.lt_or_ge K ((Fr.flat (ls.take i)).length + (8 + ls[i].length)) with h | h
              · exact h
              · have := (List.getElem?_eq_some_iff.1 (HW1.out h)).1
                rw [HJ.out] at this
                omega
            have t1 : ((i : Int) == (n : Int)) = false := by rw [beq_eq_false_iff_ne]; omega
            clear hl HW1
            generalize ls[i] = l at *
            clear hils
            generalize hx : l.length = x at *
            clear hx
            generalize (Fr.flat (ls.take i)).length = a at *
            have hgi : (K : Int) < (a : Int) + 8 + x := by omega
            have hgd : decide ((K : Int) < (a : Int) + 8 + x) = true := by simp; omega
            go_wp2_with fail
            go_ret
            exact ⟨by simp, B5.out.trans (BE.out.mono B5.out.size)⟩
        · obtain rfl : i = n := by omega
          have e : ls.take i = ls := List.take_of_length_le (by rw [J5.out.len]; omega)
          have hK2 : (K : Int) ≤ ((Fr.flat (ls.take i)).length : Int) := by rw [e, HZ.out]; omega
          have hK3 : decide ((K : Int) ≤ ((Fr.flat (ls.take i)).length : Int)) = true := by simp; omega
          clear e
          generalize (Fr.flat (ls.take i)).length = a at *
          by_cases hlt : i < j
          · go_wp2_with fail
            go_ret
            exact ⟨by simp, B5.out.trans (BE.out.mono B5.out.size)⟩
          · obtain rfl : i = j := by omega
            go_wp2_with fail
            go_ret
            exact ⟨by simp, B5.out.trans (BE.out.mono B5.out.size)⟩
  · go_wp2_with fail
    go_ret
    exact ⟨rfl, B2.out⟩
end Go.Proofs.Ytkhhmpcpcdadaaa
