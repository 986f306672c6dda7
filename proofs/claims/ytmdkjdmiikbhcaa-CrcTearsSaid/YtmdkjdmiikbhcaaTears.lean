import Derived.Test.YtmdkjdmiikbhcaaLinear
import Derived.Test.YtmdkjdmiikbhcaaPt
namespace Go.Proofs.Ytmdkjdmiikbhcaa
open Go.RowKit
set_option linter.unusedVariables false

theorem u8_turn (x : UInt8) (r : Nat) (hr : r < 8) : bits .xor .u8 (x.toNat : Int) (IntKind.u8.wrap (2 ^ r)) = ((x ^^^ UInt8.ofNat (2 ^ r)).toNat : Int) := by
  have hp : 2 ^ r < 256 := Nat.pow_lt_pow_right (by omega) (show r < 8 from hr)
  have e : IntKind.u8.wrap ((2 : Int) ^ r) = ((UInt8.ofNat (2 ^ r)).toNat : Int) := by
    rw [IntKind.wrap_u8', UInt8.toNat_ofNat', Nat.mod_eq_of_lt hp, show (2 : Int) ^ r = ((2 ^ r : Nat) : Int) from by rw [Int.natCast_pow]; rfl]
    generalize 2 ^ r = z at hp
    omega
  rw [e]
  exact u8_xor_byte _ _

def TearRel (b : List UInt8) (m t : Nat) (g cap n base : Nat) (w1 : World) (i : Value) (wr : World) : Prop :=
  ∃ k : Nat, k ≤ 32 ∧ i = .int .i64 k ∧ OwnB wr base (.slice (some ⟨g, 0, none⟩) n cap) (Pl.tearTo b m t k) ∧ Below base w1 wr ∧ g < wr.heap.size ∧ (∀ j, j < k → t.testBit j = true → (m + j) / 8 < n)

set_option maxRecDepth 20000 in
theorem law_tears (b : List UInt8) (A : Option Addr) (n cap : Nat) (at_ turn : Int) (w : World) (hb : BytesAt w w.heap.size A b) (hn : b.length = n) (hnc : n ≤ cap) (hc : cap ≤ 9223372036854775807) (hA : A = none → cap = 0)
    (a0 : -9223372036854775808 ≤ at_) (a1 : at_ ≤ 9223372036854775807) (t0 : 0 ≤ turn) (t1 : turn ≤ 4294967295) :
    Calls Try.prog 5 #[.slice A n cap, .int .i64 at_, .int .u32 turn] w (RetBelow (.bool true) w) := by
  obtain ⟨t, rfl⟩ := Int.eq_ofNat_of_zero_le t0
  have HN := Lib.hid hn
  have HB := Lib.hid hb
  have HA := Lib.hid hA
  clear hn hb hA
  go_enter Try.func5, Try.ntmps5
  go_wp2_with fail
  refine (awake_any _).mono ?_
  rintro e w1 ⟨rfl, hb1⟩
  have B1 := Lib.hid hb1
  clear hb1
  by_cases hl : 65536 < n
  · go_wp2_with fail
    go_ret
    exact ⟨rfl, B1.out⟩
  by_cases hneg : at_ < 0
  · go_wp2_with fail
    go_ret
    exact ⟨rfl, B1.out⟩
  obtain ⟨m, rfl⟩ := Int.eq_ofNat_of_zero_le (show 0 ≤ at_ by omega)
  by_cases ht : t = 0
  · subst ht
    go_wp2_with fail
    go_ret
    exact ⟨rfl, B1.out⟩
  have htb : ((t : Int) == 0) = false := by rw [beq_eq_false_iff_ne]; omega
  by_cases hm : n ≤ m / 8
  · have HT := Lib.hid ht
    clear ht
    go_wp2_with fail
    go_ret
    exact ⟨rfl, B1.out⟩
  have HT := Lib.hid ht
  clear ht
  have hnew := Lib.hid (OwnB.new w1)
  have hs1 := B1.out.size
  have hb2 : Below w.heap.size w (w1.alloc (.cells #[] 5)) := B1.out.alloc B1.out.size _
  have B2 := Lib.hid hb2
  clear hb2
  have d1 : decide ((65536 : Int) < (n : Int)) = false := by rw [decide_eq_false_iff_not]; omega
  have d2 : decide ((m : Int) < 0) = false := by rw [decide_eq_false_iff_not]; omega
  have d3 : decide ((n : Int) ≤ (m : Int) / 8) = false := by rw [decide_eq_false_iff_not]; omega
  go_wp2_with (at_builtin; (refine wp_appB rfl (.tmp 29) (.tmp 30) rfl w1.heap.size _ [] rfl hnew.out A n cap _ b rfl HA.out (HB.out.on B2.out) HN.out hnc (by simp; omega) (by simp) ?_); intro v3 w3 own3 hb3)
  simp only [List.nil_append] at own3
  obtain ⟨g, cap3, rfl, hg, hgl, hc3, hcm3⟩ := own3.form' (fun e => by have := HN.out; rw [e] at this; simp at this; omega)
  rw [HN.out] at own3 hc3 ⊢
  have O3 := Lib.hid own3
  have hb13 : Below w1.heap.size w1 w3 := ((Below.refl _ _).alloc (Nat.le_refl _) _).trans hb3
  have B3 := Lib.hid hb13
  clear own3 hb3 hb13 d1 d2 d3 hnew B2
  go_loopw [8] (TearRel b m t g cap3 n w1.heap.size w1) (fun i _ => 32 - (intOf i).toNat)
  case atStart => exact ⟨0, by omega, rfl, O3.out, B3.out, hgl, fun j h => by omega⟩
  case round =>
    obtain ⟨k, hk, rfl, own, bel, hsz, hin⟩ := hrel
    by_cases hlt : k < 32
    · have hand : bits .and .u32 ((t : Int) / 2 ^ k) 1 = ((t / 2 ^ k % 2 : Nat) : Int) := by
        have h1 := and1 (t / 2 ^ k) (Nat.lt_of_le_of_lt (Nat.div_le_self _ _) (by omega))
        rw [← h1]
        congr 1
      rw [Pl.bit_of] at hand
      cases htk : t.testBit k with
      | false =>
        rw [htk] at hand
        have hand' : bits .and .u32 ((t : Int) / 2 ^ k) 1 = 0 := hand
        have HTK := Lib.hid htk
        have OW := Lib.hid own
        have BE := Lib.hid bel
        have HI := Lib.hid hin
        clear own bel hin htk hand
        go_wp2_with fail
        go_roundw
        case rel =>
          refine ⟨k + 1, by omega, by go_num, ?_, BE.out, hsz, fun j hj hb => ?_⟩
          · rw [Pl.tearTo, HTK.out]; exact OW.out
          · rcases Nat.lt_or_ge j k with h | h
            · exact HI.out j h hb
            · obtain rfl : j = k := by omega
              rw [HTK.out] at hb
              cases hb
        case measure => simp [intOf]; omega
      | true =>
        rw [htk] at hand
        have hand' : bits .and .u32 ((t : Int) / 2 ^ k) 1 = 1 := hand
        have HTK := Lib.hid htk
        have OW := Lib.hid own
        have BE := Lib.hid bel
        have HI := Lib.hid hin
        clear own bel hin htk hand
        by_cases hq : n ≤ (m + k) / 8
        · go_wp2_with fail
          go_ret
          exact ⟨rfl, B1.out.trans (BE.out.mono B1.out.size)⟩
        · have hlen := Pl.tearTo_length b m t k
          rw [HN.out] at hlen
          have hel : (Pl.tearTo b m t k)[(m + k) / 8]? = some ((Pl.tearTo b m t k)[(m + k) / 8]'(by omega)) := List.getElem?_eq_getElem (by omega)
          obtain ⟨cd, fd⟩ := OW.out.at' hel
          have htr := u8_turn ((Pl.tearTo b m t k)[(m + k) / 8]'(by omega)) ((m + k) % 8) (by omega)
          have own' := OW.out.set ((m + k) / 8) ((Pl.tearTo b m t k)[(m + k) / 8]'(by omega) ^^^ UInt8.ofNat (2 ^ ((m + k) % 8)))
          have hset : (Pl.tearTo b m t k).set ((m + k) / 8) ((Pl.tearTo b m t k)[(m + k) / 8]'(by omega) ^^^ UInt8.ofNat (2 ^ ((m + k) % 8))) = Pl.tearTo b m t (k + 1) := by
            rw [Pl.tearTo, HTK.out, if_pos rfl, Pl.flip, List.getD_eq_getElem?_getD, hel, Option.getD_some]
          rw [hset] at own'
          have OW' := Lib.hid own'
          have BE' := Lib.hid (BE.out.setCell (p := ⟨g, (m + k) / 8, none⟩) hg (.int .u8 (((Pl.tearTo b m t k)[(m + k) / 8]'(by omega) ^^^ UInt8.ofNat (2 ^ ((m + k) % 8))).toNat : Int)))
          clear own' hset hel
          generalize (Pl.tearTo b m t k)[(m + k) / 8]'(by omega) ^^^ UInt8.ofNat (2 ^ ((m + k) % 8)) = y at *
          generalize (Pl.tearTo b m t k)[(m + k) / 8]'(by omega) = x at *
          have hpw : IntKind.i64.wrap ((m : Int) + (k : Int)) = ((m + k : Nat) : Int) := by rw [IntWalk.i64_in _ ⟨by omega, by omega⟩]; omega
          have hpq : ((m + k : Nat) : Int).tdiv 8 = (((m + k) / 8 : Nat) : Int) := rfl
          have hpr : ((m + k : Nat) : Int).tmod 8 = (((m + k) % 8 : Nat) : Int) := rfl
          have hqw : IntKind.i64.wrap (((m + k) / 8 : Nat) : Int) = (((m + k) / 8 : Nat) : Int) := IntWalk.i64_in _ ⟨by omega, by omega⟩
          have hrw : IntKind.i64.wrap (((m + k) % 8 : Nat) : Int) = (((m + k) % 8 : Nat) : Int) := IntWalk.i64_in _ ⟨by omega, by omega⟩
          have hr8 : (((m + k) % 8 : Nat) : Int) < 8 := by omega
          have hq8 : (((m + k) / 8 : Nat) : Int) < n := by omega
          have hql : (m + k) / 8 < n := by omega
          have HQ := Lib.hid (fun (j : Nat) (h : j = k) => (show (m + j) / 8 < n by rw [h]; exact hql))
          go_wp2_with fail
          clear hand'
          generalize (m + k) / 8 = q at *
          generalize (m + k) % 8 = r at *
          generalize m + k = p at *
          refine wp_region_still_tail 14 (by kernel_rfl) (by kernel_rfl) ?_
          simp only [List.take_succ_cons, List.take_zero, List.drop_succ_cons, List.drop_zero]
          repeat still_step
          refine wpStill_nil ?_
          change wpList _ _ _ _ _ wr.drew
          go_wp2_with fail
          go_roundw
          case rel =>
            refine ⟨k + 1, by omega, by go_num, OW'.out.below ((Below.refl _ _).drew), BE'.out.drew, by simpa using hsz, fun j hj hb => ?_⟩
            rcases Nat.lt_or_ge j k with h | h
            · exact HI.out j h hb
            · obtain rfl : j = k := by omega
              exact HQ.out j rfl
          case measure => simp [intOf]; omega
    · obtain rfl : k = 32 := by omega
      have hne := Pl.tear_sum b m t HT.out (by omega) (fun j hj hb => by rw [HN.out]; exact hin j hj hb)
      obtain ⟨A4, c4, he4, bt4, hc4, hcm4⟩ := own.form
      have hlen := Pl.tearTo_length b m t 32
      rw [HN.out] at hlen
      rw [hlen] at he4 hc4
      injection he4 with e1 e2 e3
      subst e1 e3
      have BT := Lib.hid bt4
      have HL := Lib.hid hlen
      have BE := Lib.hid bel
      have HNE := Lib.hid hne
      have BW := Lib.hid (B1.out.trans (bel.mono B1.out.size))
      clear own bt4 hlen bel hne hin
      go_wp2_with fail
      refine (sum_any b A n cap wr (HB.out.on BW.out) HN.out (by omega)).mono ?_
      rintro e w5 ⟨rfl, hb5⟩
      have B5 := Lib.hid hb5
      clear hb5
      go_wp2_with fail
      refine (sum_any _ _ n cap3 w5 (BT.out.on B5.out) HL.out (by omega)).mono ?_
      rintro e w6 ⟨rfl, hb6⟩
      have B6 := Lib.hid (BW.out.trans ((B5.out.trans (hb6.mono B5.out.size)).mono BW.out.size))
      clear hb6
      have h7 : (((Pl.sum b : Nat) : Int) != ((Pl.sum (Pl.tearTo b m t 32) : Nat) : Int)) = true := by
        rw [bne_iff_ne]
        exact fun h => HNE.out (by omega)
      have h8 : (Pl.sum b != Pl.sum (Pl.tearTo b m t 32)) = true := by
        rw [bne_iff_ne]
        exact HNE.out
      generalize Pl.sum b = X at *
      generalize Pl.sum (Pl.tearTo b m t 32) = Y at *
      go_wp2_with fail
      go_ret
      exact ⟨rfl, B6.out⟩
end Go.Proofs.Ytmdkjdmiikbhcaa
