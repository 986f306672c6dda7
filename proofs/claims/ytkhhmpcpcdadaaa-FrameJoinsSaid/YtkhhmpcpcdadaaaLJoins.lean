import Derived.Test.YtkhhmpcpcdadaaaAv
namespace Go.Proofs.Ytkhhmpcpcdadaaa
open Go.RowKit
set_option linter.unusedVariables false

theorem Fr.scan_rows : ∀ (n : Nat) (b : List UInt8), b.length ≤ n → 8 * (Fr.scan b).1.length ≤ (Fr.scan b).2 := by
  intro n
  induction n with
  | zero => intro b h; rw [Fr.scan_short b (by omega)]; simp
  | succ n ih =>
    intro b h
    cases hf : Fr.first b with
    | none => rw [Fr.scan_none hf]; simp
    | some p =>
      have hl := (Fr.first_len hf).2.2
      rw [Fr.scan_some hf]
      have := ih (b.drop (8 + p.length)) (by rw [List.length_drop]; omega)
      dsimp only
      rw [List.length_cons]
      omega
set_option maxRecDepth 20000 in
theorem law_joins (ls : List (List UInt8)) (A : Option Addr) (n c : Nat) (bs : List UInt8) (A2 : Option Addr) (m c2 : Nat) (w : World) (h1 : RoArg w A n c ls) (h2 : ByArg w A2 m c2 bs) :
    Calls Try.prog 7 #[.slice A n c, .slice A2 m c2] w (RetBelow (.bool true) w) := by
  have hnc := h1.le
  have hcc := h1.cap
  have hmc := h2.le
  have hcc2 := h2.cap
  have H1 := Lib.hid h1
  have H2 := Lib.hid h2
  clear h1 h2
  go_enter Try.func7, Try.ntmps7
  go_wp2_with fail
  refine (awake_any _).mono ?_
  rintro e w1 ⟨rfl, hb1⟩
  have B1 := Lib.hid hb1
  have h1 := H1.out.below hb1
  have h2 := H2.out.below hb1
  have I1 := Lib.hid h1
  have I2 := Lib.hid h2
  clear hb1 h1 h2 H1 H2
  by_cases q1 : 60 < n
  · go_wp2_with fail
    go_ret
    exact ⟨rfl, B1.out⟩
  by_cases q3 : 65536 < Fr.tot ls
  · have hT := total_big (c := c) I1.out.at_ I1.out.len (by omega) q3
    clear q3
    go_wp2_with (go_at_call 16; refine hT.mono ?_; rintro e w' ⟨rfl, t, ht, rfl⟩)
    go_ret
    exact ⟨rfl, B1.out⟩
  have hT := total_small (c := c) I1.out.at_ I1.out.len (by omega) (by omega)
  have htot : (Fr.tot ls : Int) ≤ 65536 := by omega
  by_cases q2 : 65536 < m
  · clear q3
    generalize Fr.tot ls = T at *
    go_wp2_with (go_at_call 16; refine hT.mono ?_; rintro e w' ⟨rfl, rfl⟩)
    go_ret
    exact ⟨rfl, B1.out⟩
  have hW := whole_any ls A n c w1.heap.size w1 (Nat.le_refl _) I1.out.at_ I1.out.len (by omega) (by omega)
  have hfl := Fr.flat_take_bd ls n (by rw [I1.out.len]; omega) (by omega)
  rw [List.take_of_length_le (by rw [I1.out.len]; omega)] at hfl
  clear q3
  generalize Fr.tot ls = T at *
  go_wp2_with (go_at_call 16; refine hT.mono ?_; rintro e w' ⟨rfl, rfl⟩)
  refine hW.mono ?_
  clear hT hW
  rintro e w2 ⟨hb2, hcase⟩
  have B2 := Lib.hid (B1.out.trans (hb2.mono B1.out.size))
  have J1 := Lib.hid (I1.out.below hb2)
  have J2 := Lib.hid (I2.out.below hb2)
  clear hb2 I1 I2 B1
  rcases hcase with ⟨ok, Ab, cb, rfl, own⟩ | ⟨_, rfl⟩
  · have hsc := Fr.scan_flat ls ok bs
    have ho1 := Fr.scan_rows bs.length bs (Nat.le_refl _)
    have ho2 := Fr.scan_le bs.length bs (Nat.le_refl _)
    rw [J2.out.len] at ho2
    obtain ⟨ks, hks⟩ : ∃ ks, ks = (Fr.scan bs).1 := ⟨_, rfl⟩
    obtain ⟨o, ho⟩ : ∃ o, o = (Fr.scan bs).2 := ⟨_, rfl⟩
    rw [← hks, ← ho] at hsc
    rw [← hks, ← ho] at ho1
    rw [← ho] at ho2
    have SK : Hid (Fr.scan bs = (ks, o)) := Lib.hid (by rw [hks, ho])
    clear hks ho
    obtain ⟨z, hz⟩ : ∃ z, z = (Fr.flat ls).length := ⟨_, rfl⟩
    have OB : Hid (OwnB w2 w1.heap.size (.slice Ab z cb) (Fr.flat ls)) := Lib.hid (by rw [hz]; exact own)
    rw [← hz] at hsc hfl ⊢
    have HZ : Hid ((Fr.flat ls).length = z) := Lib.hid hz.symm
    have SC := Lib.hid hsc
    clear hsc hz own
    obtain ⟨A', c', e', hbb, hzc, hc3⟩ := OB.out.form
    rw [HZ.out] at e' hzc
    obtain ⟨rfl, rfl⟩ : A' = Ab ∧ c' = cb := by injection e' with x1 x2 x3; exact ⟨x1.symm, x3.symm⟩
    have hAn : A' = none → c' = 0 := fun e => by
      subst e
      rcases OB.out.2 with ⟨q, _⟩ | ⟨g, cap, cur, q, _⟩
      · injection q
      · injection q with q; cases q
    have HA := Lib.hid hAn
    have HBB := Lib.hid (hbb.below ((Below.refl w2.heap.size w2).alloc (Nat.le_refl _) (.cells #[] 5)))
    have HM := Lib.hid (J2.out.at_.below ((Below.refl w2.heap.size w2).alloc (Nat.le_refl _) (.cells #[] 5)))
    have HMN := Lib.hid J2.out.nil
    have HML := Lib.hid J2.out.len
    have OW2 := Lib.hid (OwnB.new w2)
    clear hAn hbb e'
    go_wp2_with (first
      | (at_builtin; (refine wp_appB rfl (.tmp 34) (.tmp 35) rfl w2.heap.size _ [] rfl OW2.out A' z c' _ (Fr.flat ls) rfl HA.out HBB.out HZ.out (by omega) (by simp; omega) (by rw [World.size_alloc]; omega) ?_); intro v3 w3 own3 bel3
         rw [List.nil_append] at own3
         have OW3 := Lib.hid own3
         have B3 := Lib.hid ((((Below.refl w2.heap.size w2).alloc (Nat.le_refl _) (.cells #[] 5)).trans bel3))
         have hs3 : w2.heap.size ≤ w3.heap.size := B3.out.size
         have HM3 := Lib.hid (J2.out.at_.below B3.out)
         clear own3 bel3)
      | (at_builtin; (refine wp_appB rfl (.tmp 36) (.tmp 37) rfl w2.heap.size _ (Fr.flat ls) rfl OW3.out A2 m c2 _ bs rfl HMN.out HM3.out HML.out (by omega) (by rw [HZ.out]; omega) (by omega) ?_); intro v4 w4 own4 bel4
         obtain ⟨A5, c5, e5, hb5, h5, h5'⟩ := own4.form
         rw [List.length_append, HZ.out, HML.out] at e5 h5
         subst e5
         have HB5 := Lib.hid hb5
         have B4 := Lib.hid (B3.out.trans bel4)
         clear own4 bel4 hb5))
    obtain ⟨kn, hkn⟩ : ∃ kn, kn = ks.length := ⟨_, rfl⟩
    rw [← hkn] at ho1
    have HK : Hid (ks.length = kn) := Lib.hid hkn.symm
    clear hkn
    refine (scan_at (j := n + kn) HB5.out (by rw [List.length_append, HZ.out, HML.out]) (by omega) h5 h5' SC.out (by rw [List.length_append, J1.out.len, HK.out])).mono ?_
    rintro e w5 ⟨bel5, A6, c6, rfl, _, _, hr6⟩
    have B5 := Lib.hid (B4.out.trans (bel5.mono B4.out.size))
    have R6 := Lib.hid hr6
    have K2 := Lib.hid (J2.out.below B5.out)
    clear bel5 hr6
    go_wp2_with fail
    refine (scan_at (j := kn) K2.out.at_ K2.out.len (by omega) hmc hcc2 SK.out HK.out).mono ?_
    rintro e w6 ⟨bel6, A7, c7, rfl, hkc, hk0, hr7⟩
    have B6 := Lib.hid (B5.out.trans (bel6.mono B5.out.size))
    have B26 := Lib.hid (B2.out.trans (B6.out.mono B2.out.size))
    have R6' := Lib.hid (R6.out.below bel6)
    have R7 := Lib.hid hr7
    have R8 := Lib.hid (J1.out.at_.below B6.out)
    obtain ⟨us, rus, vus⟩ := R8.out.vals (Nat.le_refl _)
    obtain ⟨ts, rts, vts⟩ := R7.out.vals (Nat.le_refl _)
    have RU := Lib.hid rus
    have VU := Lib.hid (vus.below ((Below.refl w6.heap.size w6).alloc (Nat.le_refl _) (.cells #[] 22)))
    have RT := Lib.hid rts
    have VT := Lib.hid vts
    have HUL : Hid (us.length = n) := Lib.hid (by rw [← rus.1, J1.out.len])
    have HTL : Hid (ts.length = kn) := Lib.hid (by rw [← rts.1, HK.out])
    have JN := Lib.hid J1.out.nil
    have OV := Lib.hid (OwnV.new w6)
    have HK0 := Lib.hid hk0
    clear bel6 hr7 rus vus rts vts hk0
    go_wp2_with (first
      | (at_builtin; (refine wp_appVs rfl (.tmp 48) (.tmp 49) rfl w6.heap.size _ [] rfl OV.out A n c us rfl JN.out VU.out RU.out.one HUL.out hnc (by simp; omega) (by rw [World.size_alloc]; omega) ?_); intro v7 w7 own7 bel7
         rw [List.nil_append] at own7
         have OV7 := Lib.hid own7
         have B7 := Lib.hid ((((Below.refl w6.heap.size w6).alloc (Nat.le_refl _) (.cells #[] 22)).trans bel7))
         have hs7 : w6.heap.size ≤ w7.heap.size := B7.out.size
         have VT7 := Lib.hid (VT.out.below B7.out)
         clear own7 bel7)
      | (at_builtin; (refine wp_appVs rfl (.tmp 50) (.tmp 51) rfl w6.heap.size _ us rfl OV7.out A7 kn c7 ts rfl HK0.out VT7.out RT.out.one HTL.out hkc (by rw [HUL.out]; omega) hs7 ?_); intro v8 w8 own8 bel8
         have OV8 := Lib.hid own8
         have B8 := Lib.hid (B7.out.trans bel8)
         obtain ⟨A8, c8, e8, _, _⟩ := own8.form
         rw [List.length_append, HUL.out, HTL.out] at e8
         subst e8
         clear own8 bel8))
    have R9 := Lib.hid (OV8.out.rowsAt (((RU.out.append RT.out).keep B8.out.block).mono B8.out.size))
    have R10 := Lib.hid (R6'.out.below B8.out)
    refine (same_any (ls ++ ks) A6 A8 (n + kn) c6 c8 w8.heap.size w8 (Nat.le_refl _) R10.out R9.out (by rw [List.length_append, J1.out.len, HK.out]) (by omega)).mono ?_
    rintro e w9 ⟨rfl, bel9⟩
    have B9 := Lib.hid (B26.out.trans ((B8.out.trans (bel9.mono B8.out.size)).mono B26.out.size))
    clear bel9
    go_wp2_with fail
    go_ret
    exact ⟨rfl, B9.out⟩
  · go_wp2_with fail
    go_ret
    exact ⟨rfl, B2.out⟩
end Go.Proofs.Ytkhhmpcpcdadaaa
