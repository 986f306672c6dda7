import Derived.Test.YtkhhmpcpcdadaaaCom
import Derived.Test.YtkhhmpcpcdadaaaFf
import Derived.StillTailTactics
import Derived.IntWalk
namespace Go.Proofs.Ytkhhmpcpcdadaaa
open Go.RowKit
set_option linter.unusedVariables false

theorem u8_xor_byte (x y : UInt8) : bits .xor .u8 (x.toNat : Int) (y.toNat : Int) = ((x ^^^ y).toNat : Int) := by
  rw [u8_xor_nat _ _ x.toNat_lt y.toNat_lt, UInt8.toNat_xor]

theorem u8_turn (x : UInt8) (r : Nat) (hr : r < 8) : bits .xor .u8 (x.toNat : Int) (IntKind.u8.wrap (2 ^ r)) = ((x ^^^ UInt8.ofNat (2 ^ r)).toNat : Int) := by
  have hp : 2 ^ r < 256 := Nat.pow_lt_pow_right (by omega) (show r < 8 from hr)
  have e : IntKind.u8.wrap ((2 : Int) ^ r) = ((UInt8.ofNat (2 ^ r)).toNat : Int) := by
    rw [IntKind.wrap_u8', UInt8.toNat_ofNat', Nat.mod_eq_of_lt hp, show (2 : Int) ^ r = ((2 ^ r : Nat) : Int) from by rw [Int.natCast_pow]; rfl]
    generalize 2 ^ r = z at hp
    omega
  rw [e]
  exact u8_xor_byte _ _

def AtRel (ls : List (List UInt8)) (K : Nat) (av iv : Value) : Prop := ∃ j : Nat, j ≤ K ∧ iv = .int .i64 j ∧ av = .int .i64 ((Fr.flat (ls.take j)).length : Nat)
set_option maxRecDepth 20000 in
theorem law_flips (ls : List (List UInt8)) (A : Option Addr) (n c : Nat) (wh bt : Int) (w : World) (h1 : RoArg w A n c ls) (w0 : 0 ≤ wh) (w1 : wh ≤ 65535) (t0 : 0 ≤ bt) (t1 : bt ≤ 65535) :
    Calls Try.prog 8 #[.slice A n c, .int .u16 wh, .int .u16 bt] w (RetBelow (.bool true) w) := by
  obtain ⟨wn, rfl⟩ := Int.eq_ofNat_of_zero_le w0
  obtain ⟨bn, rfl⟩ := Int.eq_ofNat_of_zero_le t0
  have hnc := h1.le
  have hcc := h1.cap
  have H1 := Lib.hid h1
  clear h1 w0 t0
  go_enter Try.func8, Try.ntmps8
  go_wp2_with fail
  refine (awake_any _).mono ?_
  rintro e w1 ⟨rfl, hb1⟩
  have B1 := Lib.hid hb1
  have h1 := H1.out.below hb1
  have I1 := Lib.hid h1
  clear hb1 h1 H1
  by_cases q0 : n = 0
  · have q0' : ((n : Int) == 0) = true := by rw [beq_iff_eq]; omega
    clear q0
    go_wp2_with fail
    go_ret
    exact ⟨rfl, B1.out⟩
  have q0' : ((n : Int) == 0) = false := by rw [beq_eq_false_iff_ne]; omega
  have Q0 := Lib.hid q0
  clear q0
  by_cases q1 : 60 < n
  · go_wp2_with fail
    go_ret
    exact ⟨rfl, B1.out⟩
  by_cases q3 : 65536 < Fr.tot ls
  · have hT := total_big (c := c) I1.out.at_ I1.out.len (by omega) q3
    clear q3
    go_wp2_with (go_at_call 16; refine hT.mono ?_; rintro e w' ⟨rfl, t, ht, rfl⟩)
    go_ret
    exact ⟨rfl, B1.out⟩
  have hT := total_small (c := c) I1.out.at_ I1.out.len (by omega) (by omega)
  have htot : (Fr.tot ls : Int) ≤ 65536 := by omega
  have HTOT : Hid (Fr.tot ls ≤ 65536) := Lib.hid (by omega)
  have hW := whole_any ls A n c w1.heap.size w1 (Nat.le_refl _) I1.out.at_ I1.out.len (by omega) (by omega)
  have hn60 : n ≤ 60 := by omega
  have hz60 : ¬ (60 : Int) < n := by omega
  have hd60 : decide ((60 : Int) < n) = false := by simp; omega
  clear q3 q1
  generalize hTT : Fr.tot ls = T at hT htot
  have hdT : decide ((65536 : Int) < T) = false := by simp; omega
  clear hTT
  go_wp2_with (go_at_call 16; refine hT.mono ?_; rintro e w' ⟨rfl, rfl⟩)
  refine hW.mono ?_
  clear hT hW
  rintro e w2 ⟨hb2, hcase⟩
  have B2 := Lib.hid (B1.out.trans (hb2.mono B1.out.size))
  have J1 := Lib.hid (I1.out.below hb2)
  have hs12 := hb2.size
  have RW := Lib.hid (I1.out.at_.keep hb2.block)
  have BW := Lib.hid hb2
  clear hb2 I1
  rcases hcase with ⟨ok, Ab, cb, rfl, own⟩ | ⟨_, rfl⟩
  · obtain ⟨K, hK⟩ : ∃ K, K = wn % n := ⟨_, rfl⟩
    have hKn : K < n := by rw [hK]; exact Nat.mod_lt _ (by have := Q0.out; omega)
    have hKi : (wn : Int) % (n : Int) = (K : Int) := by rw [hK]; rfl
    clear hK
    have hKl : K < ls.length := by rw [J1.out.len]; exact hKn
    have HKL := Lib.hid (show ls[K]? = some ls[K] from List.getElem?_eq_getElem hKl)
    have hne : ls ≠ [] := fun e => by rw [e] at hKl; simp at hKl
    obtain ⟨b, off, rfl, hb, hat⟩ := J1.out.at_ hne
    have HAT := Lib.hid hat
    have OB := Lib.hid own
    have OK := Lib.hid ok
    have hfl := Fr.flat_take_bd ls n (by rw [J1.out.len]; exact hn60) HTOT.out
    rw [List.take_of_length_le (by rw [J1.out.len]; omega)] at hfl
    clear hat own ok hne
    obtain ⟨z, hz⟩ : ∃ z, z = (Fr.flat ls).length := ⟨_, rfl⟩
    rw [← hz] at OB hfl ⊢
    have HZ : Hid ((Fr.flat ls).length = z) := Lib.hid hz.symm
    clear hz
    generalize ls[K] = lk at *
    clear hKl
    go_wp2_with fail
    go_loop [10, 11] (AtRel ls K) (fun _ i => K - (intOf i).toNat)
    case atStart => exact ⟨0, by omega, rfl, rfl⟩
    case round =>
      obtain ⟨j, hj, rfl, rfl⟩ := hrel
      have hfj := Fr.flat_take_le ls j
      rw [HZ.out] at hfj
      by_cases hlt : j < K
      · have hjl : j < ls.length := by rw [J1.out.len]; omega
        have hlj : ls[j]? = some ls[j] := List.getElem?_eq_getElem hjl
        obtain ⟨v, x1, A2, c2, rfl, h2, h3, h4, h5⟩ := HAT.out j _ hlj
        have HS : Hid ((Fr.flat (ls.take (j + 1))).length = (Fr.flat (ls.take j)).length + (8 + ls[j].length)) := Lib.hid (by rw [Fr.flat_step hlj, List.length_append, Fr.rcd_length])
        have hfs := Fr.flat_take_le ls (j + 1)
        rw [HZ.out, HS.out] at hfs
        have i1 : (j : Int) < n := by omega
        clear h4 h5 hlj
        generalize ls[j].length = y at *
        generalize (Fr.flat (ls.take j)).length = a at *
        clear hjl
        go_wp2_with fail
        go_round
        case rel => exact ⟨j + 1, by omega, by go_num, by rw [HS.out]; go_num⟩
        case measure => simp [intOf]; omega
      · obtain rfl : j = K := by omega
        obtain ⟨v, x1, A2, c2, rfl, h2, h3, h4, h5⟩ := HAT.out j _ HKL.out
        have hfs := Fr.flat_take_le ls (j + 1)
        rw [HZ.out, Fr.flat_step HKL.out, List.length_append, Fr.rcd_length] at hfs
        obtain ⟨D, hD⟩ : ∃ D, D = 8 * (4 + lk.length) := ⟨_, rfl⟩
        obtain ⟨M, hM⟩ : ∃ M, M = bn % D := ⟨_, rfl⟩
        have hDi : (8 : Int) * (4 + (lk.length : Int)) = (D : Int) := by omega
        have hMi : (bn : Int) % (D : Int) = (M : Int) := by rw [hM]; rfl
        have hMD : M < D := by rw [hM]; exact Nat.mod_lt _ (by omega)
        obtain ⟨a, ha⟩ : ∃ a, a = (Fr.flat (ls.take j)).length := ⟨_, rfl⟩
        rw [← ha] at hfs hfj ⊢
        obtain ⟨E, hE⟩ : ∃ E, E = M / 8 := ⟨_, rfl⟩
        obtain ⟨r, hr⟩ : ∃ r, r = M % 8 := ⟨_, rfl⟩
        have hEi : (M : Int) / 8 = (E : Int) := by omega
        have hri : (M : Int) % 8 = (r : Int) := by omega
        have hr8 : r < 8 := by omega
        have hr8i : (r : Int) < 8 := by omega
        have hr8j : ¬ (8 : Int) ≤ (r : Int) := by omega
        obtain ⟨P, hP⟩ : ∃ P, P = if M < 32 then a + E else a + 4 + E := ⟨_, rfl⟩
        obtain ⟨q, hq⟩ : ∃ q, q = if M < 32 then E else 4 + E := ⟨_, rfl⟩
        have hPq : P = a + q := by rw [hP, hq]; split <;> omega
        have hqq : q < 4 ∨ (8 ≤ q ∧ q < 8 + lk.length) := by rw [hq]; split <;> omega
        have hPz : P < z := by omega
        have hel : (Fr.flat ls)[P]? = some ((Fr.flat ls)[P]'(by rw [HZ.out]; exact hPz)) := List.getElem?_eq_getElem _
        have SC := Lib.hid (Fr.scan_flip ls OK.out j lk HKL.out q r _ hr8 hqq (by rw [← ha, ← hPq]; exact hel))
        rw [← ha, ← hPq] at SC
        have hne2 : Fr.flat ls ≠ [] := fun e => by have := HZ.out; rw [e] at this; simp at this; omega
        obtain ⟨g, cb', he', hg, hgs, hzc, hcm⟩ := OB.out.form' hne2
        rw [HZ.out] at he' hzc
        obtain ⟨rfl, rfl⟩ : Ab = some ⟨g, 0, none⟩ ∧ cb = cb' := by injection he' with x1 x2 x3; exact ⟨x1, x3⟩
        obtain ⟨cd, fd⟩ := OB.out.at' hel
        have htr := u8_turn ((Fr.flat ls)[P]'(by rw [HZ.out]; exact hPz)) r hr8
        have OB2 := Lib.hid (OB.out.set P ((Fr.flat ls)[P]'(by rw [HZ.out]; exact hPz) ^^^ UInt8.ofNat (2 ^ r)))
        have HZ2 : Hid (((Fr.flat ls).set P ((Fr.flat ls)[P]'(by rw [HZ.out]; exact hPz) ^^^ UInt8.ofNat (2 ^ r))).length = z) := Lib.hid (by rw [List.length_set]; exact HZ.out)
        have BE2 := Lib.hid ((Below.refl w1.heap.size w2).setCell (p := ⟨g, P, none⟩) hg (.int .u8 (((Fr.flat ls)[P]'(by rw [HZ.out]; exact hPz) ^^^ UInt8.ofNat (2 ^ r)).toNat : Int)))
        clear hel hne2
        generalize (Fr.flat ls).set P ((Fr.flat ls)[P]'(by rw [HZ.out]; exact hPz) ^^^ UInt8.ofNat (2 ^ r)) = fl2 at *
        generalize (Fr.flat ls)[P]'(by rw [HZ.out]; exact hPz) ^^^ UInt8.ofNat (2 ^ r) = y at *
        generalize (Fr.flat ls)[P]'(by rw [HZ.out]; exact hPz) = x at *
        have xl : (x.toNat : Int) ≤ 255 := by have := x.toNat_lt; omega
        have hPi : (P : Int) < z := by omega
        have hrr : (M : Int).tmod 8 = (r : Int) := by rw [hr]; rfl
        have hrw : IntKind.i64.wrap (r : Int) = (r : Int) := IntWalk.i64_in _ ⟨by omega, by omega⟩
        generalize hlkx : lk.length = lx at *
        clear hlkx hE hr hM hD hq hPq hqq ha
        by_cases h32 : M < 32
        · rw [if_pos h32] at hP
          have hPs : (a : Int) + (E : Int) = (P : Int) := by omega
          clear hP
          go_wp2_with fail
          refine wp_region_still_tail 9 (by kernel_rfl) (by kernel_rfl) ?_
          simp only [List.take_succ_cons, List.take_zero, List.drop_succ_cons, List.drop_zero]
          repeat still_step
          refine wpStill_nil ?_
          change wpList _ _ _ _ _ w2.drew
          go_wp2_with fail
          have BE3 := Lib.hid (BE2.out.drew)
          have OB3 := Lib.hid (OB2.out.below ((Below.refl (w2.setCell ⟨g, P, none⟩ (.int .u8 (y.toNat : Int))).heap.size _).drew))
          have J3 := Lib.hid ((RW.out.keep (w' := (w2.setCell ⟨g, P, none⟩ (.int .u8 (y.toNat : Int))).drew) fun q hq => Below.heap_setCell w2 _ _ q (by dsimp only; omega)).take j)
          clear BE2 OB2
          generalize (w2.setCell ⟨g, P, none⟩ (.int .u8 (y.toNat : Int))).drew = w3 at *
          obtain ⟨A5, c5, e5, hb5, h5, h5'⟩ := OB3.out.form
          rw [HZ2.out] at e5 h5
          obtain ⟨rfl, rfl⟩ : A5 = some ⟨g, 0, none⟩ ∧ c5 = cb := by injection e5 with x1 x2 x3; exact ⟨x1.symm, x3.symm⟩
          have htl : (ls.take j).length = j := by rw [List.length_take, J1.out.len]; omega
          have HTL := Lib.hid htl
          clear e5 htl
          refine (scan_at (j := j) hb5 HZ2.out (by omega) h5 h5' SC.out HTL.out).mono ?_
          rintro e w4 ⟨bel4, A6, c6, rfl, _, _, hr6⟩
          have R6 := Lib.hid hr6
          have J4 := Lib.hid (((J3.out.keep fun q hq => bel4.block q (by have := BE3.out.size; omega)).mono (by have := BE3.out.size; have := bel4.size; omega) : RowsAt w4 w4.heap.size _ (ls.take j)))
          have B4 := Lib.hid (BE3.out.trans (bel4.mono (by have := BE3.out.size; omega)))
          have hjc : (j : Int) ≤ c := by omega
          clear hb5 hr6 bel4
          go_wp2_with fail
          refine (same_any (ls.take j) A6 (some ⟨b, off, none⟩) j c6 c w4.heap.size w4 (Nat.le_refl _) R6.out J4.out HTL.out (by omega)).mono ?_
          rintro e w5 ⟨rfl, bel5⟩
          have B5 := Lib.hid (B4.out.trans (bel5.mono (by have := B4.out.size; omega)))
          clear bel5
          go_wp2_with fail
          go_ret
          exact ⟨rfl, B1.out.trans (BW.out.trans B5.out |>.mono B1.out.size)⟩
        · rw [if_neg h32] at hP
          have hPs : (a : Int) + 4 + (E : Int) = (P : Int) := by omega
          clear hP
          go_wp2_with fail
          refine wp_region_still_tail 9 (by kernel_rfl) (by kernel_rfl) ?_
          simp only [List.take_succ_cons, List.take_zero, List.drop_succ_cons, List.drop_zero]
          repeat still_step
          refine wpStill_nil ?_
          change wpList _ _ _ _ _ w2.drew
          go_wp2_with fail
          have BE3 := Lib.hid (BE2.out.drew)
          have OB3 := Lib.hid (OB2.out.below ((Below.refl (w2.setCell ⟨g, P, none⟩ (.int .u8 (y.toNat : Int))).heap.size _).drew))
          have J3 := Lib.hid ((RW.out.keep (w' := (w2.setCell ⟨g, P, none⟩ (.int .u8 (y.toNat : Int))).drew) fun q hq => Below.heap_setCell w2 _ _ q (by dsimp only; omega)).take j)
          clear BE2 OB2
          generalize (w2.setCell ⟨g, P, none⟩ (.int .u8 (y.toNat : Int))).drew = w3 at *
          obtain ⟨A5, c5, e5, hb5, h5, h5'⟩ := OB3.out.form
          rw [HZ2.out] at e5 h5
          obtain ⟨rfl, rfl⟩ : A5 = some ⟨g, 0, none⟩ ∧ c5 = cb := by injection e5 with x1 x2 x3; exact ⟨x1.symm, x3.symm⟩
          have htl : (ls.take j).length = j := by rw [List.length_take, J1.out.len]; omega
          have HTL := Lib.hid htl
          clear e5 htl
          refine (scan_at (j := j) hb5 HZ2.out (by omega) h5 h5' SC.out HTL.out).mono ?_
          rintro e w4 ⟨bel4, A6, c6, rfl, _, _, hr6⟩
          have R6 := Lib.hid hr6
          have J4 := Lib.hid (((J3.out.keep fun q hq => bel4.block q (by have := BE3.out.size; omega)).mono (by have := BE3.out.size; have := bel4.size; omega) : RowsAt w4 w4.heap.size _ (ls.take j)))
          have B4 := Lib.hid (BE3.out.trans (bel4.mono (by have := BE3.out.size; omega)))
          have hjc : (j : Int) ≤ c := by omega
          clear hb5 hr6 bel4
          go_wp2_with fail
          refine (same_any (ls.take j) A6 (some ⟨b, off, none⟩) j c6 c w4.heap.size w4 (Nat.le_refl _) R6.out J4.out HTL.out (by omega)).mono ?_
          rintro e w5 ⟨rfl, bel5⟩
          have B5 := Lib.hid (B4.out.trans (bel5.mono (by have := B4.out.size; omega)))
          clear bel5
          go_wp2_with fail
          go_ret
          exact ⟨rfl, B1.out.trans (BW.out.trans B5.out |>.mono B1.out.size)⟩
  · go_wp2_with fail
    go_ret
    exact ⟨rfl, B2.out⟩
end Go.Proofs.Ytkhhmpcpcdadaaa
