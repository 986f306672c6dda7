import Derived.Test.YtkhhmpcpcdadaaaCom
namespace Go.Proofs.Ytkhhmpcpcdadaaa
open Go.RowKit
set_option linter.unusedVariables false

set_option maxRecDepth 20000 in
theorem law_back (ls : List (List UInt8)) (A : Option Addr) (n c : Nat) (bs : List UInt8) (A2 : Option Addr) (m c2 : Nat) (w : World) (h1 : RoArg w A n c ls) (h2 : ByArg w A2 m c2 bs) :
    Calls Try.prog 5 #[.slice A n c, .slice A2 m c2] w (RetBelow (.bool true) w) := by
  have hnc := h1.le
  have hcc := h1.cap
  have hmc := h2.le
  have hcc2 := h2.cap
  have H1 := Lib.hid h1
  have H2 := Lib.hid h2
  clear h1 h2
  go_enter Try.func5, Try.ntmps5
  go_wp2_with fail
  refine (awake_any _).mono ?_
  rintro e w1 ⟨rfl, hb1⟩
  have B1 := Lib.hid hb1
  have h1 := H1.out.below hb1
  have h2 := H2.out.below hb1
  have I1 := Lib.hid h1
  have I2 := Lib.hid h2
  clear hb1 h1 h2 H1 H2
  by_cases q1 : 60 < n
  · go_wp2_with fail
    go_ret
    exact ⟨rfl, B1.out⟩
  by_cases q2 : 7 < m
  · go_wp2_with fail
    go_ret
    exact ⟨rfl, B1.out⟩
  by_cases q3 : 65536 < Fr.tot ls
  · have hT := total_big (c := c) I1.out.at_ I1.out.len (by omega) q3
    clear q3
    go_wp2_with (go_at_call 16; refine hT.mono ?_; rintro e w' ⟨rfl, t, ht, rfl⟩)
    go_ret
    exact ⟨rfl, B1.out⟩
  have hT := total_small (c := c) I1.out.at_ I1.out.len (by omega) (by omega)
  have htot : (Fr.tot ls : Int) ≤ 65536 := by omega
  have hW := whole_any ls A n c w1.heap.size w1 (Nat.le_refl _) I1.out.at_ I1.out.len (by omega) (by omega)
  have hfl := Fr.flat_take_bd ls n (by rw [I1.out.len]; omega) (by omega)
  rw [List.take_of_length_le (by rw [I1.out.len]; omega)] at hfl
  clear q3
  generalize Fr.tot ls = T at *
  go_wp2_with (go_at_call 16; refine hT.mono ?_; rintro e w' ⟨rfl, rfl⟩)
  refine hW.mono ?_
  clear hT hW
  rintro e w2 ⟨hb2, hcase⟩
  have B2 := Lib.hid (B1.out.trans (hb2.mono B1.out.size))
  have J1 := Lib.hid (I1.out.below hb2)
  have J2 := Lib.hid (I2.out.below hb2)
  clear hb2 I1 I2 B1
  rcases hcase with ⟨ok, Ab, cb, rfl, own⟩ | ⟨_, rfl⟩
  · have hsc := Fr.scan_flat ls ok bs
    rw [Fr.scan_short bs (by rw [J2.out.len]; omega), List.append_nil, Nat.add_zero] at hsc
    obtain ⟨z, hz⟩ : ∃ z, z = (Fr.flat ls).length := ⟨_, rfl⟩
    have OB : Hid (OwnB w2 w1.heap.size (.slice Ab z cb) (Fr.flat ls)) := Lib.hid (by rw [hz]; exact own)
    rw [← hz] at hsc hfl ⊢
    have HZ : Hid ((Fr.flat ls).length = z) := Lib.hid hz.symm
    have SC := Lib.hid hsc
    clear hsc hz own
    obtain ⟨A', c', e', hbb, hzc, hc3⟩ := OB.out.form
    rw [HZ.out] at e' hzc
    obtain ⟨rfl, rfl⟩ : A' = Ab ∧ c' = cb := by injection e' with x1 x2 x3; exact ⟨x1.symm, x3.symm⟩
    have hAn : A' = none → c' = 0 := fun e => by
      subst e
      rcases OB.out.2 with ⟨q, _⟩ | ⟨g, cap, cur, q, _⟩
      · injection q
      · injection q with q; cases q
    have HA := Lib.hid hAn
    have HBB := Lib.hid (hbb.below ((Below.refl w2.heap.size w2).alloc (Nat.le_refl _) (.cells #[] 5)))
    have HM := Lib.hid (J2.out.at_.below ((Below.refl w2.heap.size w2).alloc (Nat.le_refl _) (.cells #[] 5)))
    have HMN := Lib.hid J2.out.nil
    have HML := Lib.hid J2.out.len
    have OW2 := Lib.hid (OwnB.new w2)
    clear hAn hbb e'
    go_wp2_with (first
      | (at_builtin; (refine wp_appB rfl (.tmp 32) (.tmp 33) rfl w2.heap.size _ [] rfl OW2.out A' z c' _ (Fr.flat ls) rfl HA.out HBB.out HZ.out (by omega) (by simp; omega) (by rw [World.size_alloc]; omega) ?_); intro v3 w3 own3 bel3
         rw [List.nil_append] at own3
         have OW3 := Lib.hid own3
         have B3 := Lib.hid ((((Below.refl w2.heap.size w2).alloc (Nat.le_refl _) (.cells #[] 5)).trans bel3))
         have hs3 : w2.heap.size ≤ w3.heap.size := B3.out.size
         have HM3 := Lib.hid (J2.out.at_.below B3.out)
         clear own3 bel3)
      | (at_builtin; (refine wp_appB rfl (.tmp 34) (.tmp 35) rfl w2.heap.size _ (Fr.flat ls) rfl OW3.out A2 m c2 _ bs rfl HMN.out HM3.out HML.out (by omega) (by rw [HZ.out]; omega) (by omega) ?_); intro v4 w4 own4 bel4
         obtain ⟨A5, c5, e5, hb5, h5, h5'⟩ := own4.form
         rw [List.length_append, HZ.out, HML.out] at e5 h5
         subst e5
         have HB5 := Lib.hid hb5
         have B4 := Lib.hid (B3.out.trans bel4)
         clear own4 bel4 hb5))
    refine (scan_at HB5.out (by rw [List.length_append, HZ.out, HML.out]) (by omega) h5 h5' SC.out J1.out.len).mono ?_
    rintro e w5 ⟨bel5, A6, c6, rfl, _, _, hr6⟩
    have R6 := Lib.hid hr6
    have B5 := Lib.hid (B4.out.trans (bel5.mono B4.out.size))
    have R7 := Lib.hid (J1.out.at_.below B5.out)
    have B6 := Lib.hid (B2.out.trans (B5.out.mono B2.out.size))
    clear bel5 hr6
    go_wp2_with fail
    refine (same_any ls A A6 n c c6 w5.heap.size w5 (Nat.le_refl _) R7.out R6.out J1.out.len (by omega)).mono ?_
    rintro e w6 ⟨rfl, bel6⟩
    have B7 := Lib.hid (B6.out.trans (bel6.mono B6.out.size))
    clear bel6
    go_wp2_with fail
    go_ret
    exact ⟨rfl, B7.out⟩
  · go_wp2_with fail
    go_ret
    exact ⟨rfl, B2.out⟩
end Go.Proofs.Ytkhhmpcpcdadaaa
