import Derived.Test.YtlimjfnolidbmaaFx
import Derived.Test.YtlimjfnolidbmaaAr
namespace Go.Proofs.Ytlimjfnolidbmaa
set_option maxRecDepth 20000
open Go.RowKit RL
set_option linter.unusedVariables false
/-! ### the law RlogParts -/
set_option maxHeartbeats 8000000 in
theorem law_parts (index term : Int) (A : Option Addr) (N c : Nat) (L : List En) (fr n m : Int) (w : World) (i1 : -9223372036854775808 ≤ index) (i2 : index ≤ 9223372036854775807) (t1 : -9223372036854775808 ≤ term) (t2 : term ≤ 9223372036854775807) (hA : SlA DE w EnOk A N c L) (f1 : -9223372036854775808 ≤ fr) (f2 : fr ≤ 9223372036854775807) (n1 : 0 ≤ n) (n2 : n ≤ 255) (m1 : 0 ≤ m) (m2 : m ≤ 255) :
    Calls Try.prog 8 #[.int .i64 index, .int .i64 term, .slice A N c, .int .i64 fr, .int .u8 n, .int .u8 m] w (RetBelow (.bool true) w) := by
  by_cases q0 : index < 0
  · have g0 : decide (index < 0) = true := decide_eq_true q0
    go_enter Try.func8, Try.ntmps8
    go_wp2_with (go_at_call 9; (with_reducible refine (awake_any _).mono ?_); rintro e w1 ⟨rfl, hb⟩; have B1 := Lib.hid hb; clear hb)
    go_ret
    exact ⟨rfl, B1.out⟩
  have g0 : decide (index < 0) = false := decide_eq_false q0
  by_cases q1 : 1099511627776 < index
  · have g1 : decide (1099511627776 < index) = true := decide_eq_true q1
    go_enter Try.func8, Try.ntmps8
    go_wp2_with (go_at_call 9; (with_reducible refine (awake_any _).mono ?_); rintro e w1 ⟨rfl, hb⟩; have B1 := Lib.hid hb; clear hb)
    go_ret
    exact ⟨rfl, B1.out⟩
  have g1 : decide (1099511627776 < index) = false := decide_eq_false q1
  by_cases q2 : term < 0
  · have g2 : decide (term < 0) = true := decide_eq_true q2
    go_enter Try.func8, Try.ntmps8
    go_wp2_with (go_at_call 9; (with_reducible refine (awake_any _).mono ?_); rintro e w1 ⟨rfl, hb⟩; have B1 := Lib.hid hb; clear hb)
    go_ret
    exact ⟨rfl, B1.out⟩
  have g2 : decide (term < 0) = false := decide_eq_false q2
  by_cases q3 : (1024 : Int) < (N : Int)
  · have g3 : decide ((1024 : Int) < (N : Int)) = true := decide_eq_true q3
    go_enter Try.func8, Try.ntmps8
    go_wp2_with (go_at_call 9; (with_reducible refine (awake_any _).mono ?_); rintro e w1 ⟨rfl, hb⟩; have B1 := Lib.hid hb; clear hb)
    go_ret
    exact ⟨rfl, B1.out⟩
  have g3 : decide ((1024 : Int) < (N : Int)) = false := decide_eq_false q3
  by_cases q4 : fr < -1099511627776
  · have g4 : decide (fr < -1099511627776) = true := decide_eq_true q4
    go_enter Try.func8, Try.ntmps8
    go_wp2_with (go_at_call 9; (with_reducible refine (awake_any _).mono ?_); rintro e w1 ⟨rfl, hb⟩; have B1 := Lib.hid hb; clear hb)
    go_ret
    exact ⟨rfl, B1.out⟩
  have g4 : decide (fr < -1099511627776) = false := decide_eq_false q4
  by_cases q5 : 2199023255552 < fr
  · have g5 : decide (2199023255552 < fr) = true := decide_eq_true q5
    go_enter Try.func8, Try.ntmps8
    go_wp2_with (go_at_call 9; (with_reducible refine (awake_any _).mono ?_); rintro e w1 ⟨rfl, hb⟩; have B1 := Lib.hid hb; clear hb)
    go_ret
    exact ⟨rfl, B1.out⟩
  have g5 : decide (2199023255552 < fr) = false := decide_eq_false q5
  obtain ⟨nn, rfl⟩ : ∃ k : Nat, n = (k : Int) := ⟨n.toNat, by omega⟩
  obtain ⟨mm, rfl⟩ : ∃ k : Nat, m = (k : Int) := ⟨m.toNat, by omega⟩
  have hLN := hA.ln
  obtain ⟨T, hT⟩ : ∃ T : Lg, (⟨index, term, L⟩ : Lg) = T := ⟨_, rfl⟩
  have HT0 := Lib.hid hT
  have HI : Hid (Inv T) := Lib.hid (by
    rw [← hT]
    exact ⟨by show 0 ≤ index; omega, by show index + (L.length : Int) ≤ _; omega, ⟨by show _ ≤ term; omega, by show term ≤ _; omega⟩, hA.all, by show L.length ≤ _; omega⟩)
  have HR : Hid (∀ X, Below w.heap.size w X → Rd DE X (fun k => k < w.heap.size) A L) := Lib.hid fun X hX => hA.rd.below hX
  have HN := Lib.hid hLN
  have HNC := Lib.hid hA.le
  have HNN := Lib.hid hA.nn
  have HN6 : Hid (N ≤ 1000000) := Lib.hid (by omega)
  have HCD : Hid (0 ≤ index ∧ 0 ≤ term ∧ index ≤ 4611686018427387904 - (L.length : Int)) := Lib.hid (by omega)
  have Ifr : Hid (I64 fr) := Lib.hid ⟨by omega, by omega⟩
  have In : Hid (I64 (nn : Int)) := Lib.hid ⟨by omega, by omega⟩
  have Inm : Hid (I64 ((nn : Int) + (mm : Int))) := Lib.hid ⟨by omega, by omega⟩
  have Im : Hid (I64 (mm : Int)) := Lib.hid ⟨by omega, by omega⟩
  have hti : T.i = index := by rw [← hT]
  have htl : T.last = index + (N : Int) := by rw [← hT]; unfold Lg.last; rw [← hLN]
  have HLS : Hid (∀ (b : Nat) X S, Log X b T S → Calls Try.prog 29 #[.pointer (some ⟨b, 0, none⟩)] X (RetBelow (.tuple #[.int .i64 (index + (N : Int)), .int .i64 T.lterm]) X)) := Lib.hid fun b X S h => by have := last_any h HI.out; rw [htl] at this; exact this
  have hfl := from_len T (k := fr) (n := (nn : Int)) (by omega)
  have hsh := from_short T (k := fr) (n := (nn : Int)) (m := (mm : Int)) (by omega)
  have htw := from_two T (k := fr) (n := (nn : Int)) (m := (mm : Int))
  have ha1 := from_le T fr (nn : Int)
  have ha2 := from_le T fr ((nn : Int) + (mm : Int))
  have ha3 := from_le T (fr + ((T.from_ fr (nn : Int)).length : Int)) (mm : Int)
  have htL : T.L.length = N := by rw [← hT]; exact hLN
  obtain ⟨La, hLa⟩ : ∃ l, T.from_ fr (nn : Int) = l := ⟨_, rfl⟩
  rw [hLa] at hfl hsh htw ha1 ha3
  obtain ⟨na, hna⟩ : ∃ k, La.length = k := ⟨_, rfl⟩
  rw [hna] at hfl hsh htw ha1 ha3
  obtain ⟨Lc, hLc⟩ : ∃ l, T.from_ fr ((nn : Int) + (mm : Int)) = l := ⟨_, rfl⟩
  rw [hLc] at hsh htw ha2
  obtain ⟨nc, hnc⟩ : ∃ k, Lc.length = k := ⟨_, rfl⟩
  obtain ⟨Lb, hLb⟩ : ∃ l, T.from_ (fr + (na : Int)) (mm : Int) = l := ⟨_, rfl⟩
  rw [hLb] at ha3
  obtain ⟨nb, hnb⟩ : ∃ k, Lb.length = k := ⟨_, rfl⟩
  have ZA : Hid (na ≤ 1024) := Lib.hid (by omega)
  have ZB : Hid (nb ≤ 1024) := Lib.hid (by omega)
  have ZC : Hid (nc ≤ 1024) := Lib.hid (by omega)
  have HLa := Lib.hid hLa
  have HLb := Lib.hid hLb
  have HLc := Lib.hid hLc
  have HNa := Lib.hid hna
  have HNb := Lib.hid hnb
  have HNc := Lib.hid hnc
  have Ifa : Hid (I64 (fr + (na : Int))) := Lib.hid ⟨by omega, by omega⟩
  have nal : (na : Int) ≤ 255 := by omega
  have nle : na ≤ nn := by omega
  have HTW : Hid ((na : Int) = nn → 0 < nn → La ++ Lb = Lc) := Lib.hid fun e h0 => by
    have := htw (by omega) (by omega) e
    rw [← e, hLb] at this
    exact this
  have HSH : Hid (na < nn → La = Lc) := Lib.hid fun h => hsh (by omega)
  have HTM : Hid (∀ (b : Nat) X S, Log X b T S → Calls Try.prog 18 #[.pointer (some ⟨b, 0, none⟩), .int .i64 fr] X (RetBelow (.tuple #[.int .i64 ((T.term fr).getD 0), .bool (T.term fr).isSome]) X)) := Lib.hid fun b X S h => term_any h HI.out Ifr.out
  have HKN : Hid ((T.term fr).isSome = true ↔ index ≤ fr ∧ fr ≤ index + (N : Int)) := Lib.hid (by
    have := term_known (T := T) (k := fr)
    rw [hti, htl] at this
    rw [← this]
    cases T.term fr <;> simp)
  have fb1 : -1099511627776 ≤ fr := by omega
  have fb2 : fr ≤ 2199023255552 := by omega
  have ib0 : 0 ≤ index := by omega
  have ib1 : index ≤ 1099511627776 := by omega
  have Nb : (N : Int) ≤ 1024 := by omega
  clear hA hLN htl hti hfl hsh htw ha1 ha2 ha3 htL hLa hLb hLc hna hnb hnc q0 q1 q2 q3 q4 q5
  generalize (T.term fr).isSome = KN at *
  generalize (T.term fr).getD 0 = TV at *
  have ZC6 : Hid (nc ≤ 1000000) := Lib.hid (by have := ZC.out; omega)
  by_cases hc1 : na = nn
  · subst hc1
    by_cases hc2 : 0 < na
    · have h0I : 0 < (na : Int) := by omega
      have hEQ := HTW.out rfl hc2
      have HEQ : Hid (decide (La ++ Lb = Lc) = true) := Lib.hid (by simpa using hEQ)
      obtain ⟨nq, hnq⟩ : ∃ k, (La ++ Lb).length = k := ⟨_, rfl⟩
      have HNQ := Lib.hid hnq
      have Z6 : Hid (nq ≤ 1000000) := Lib.hid (by rw [← hnq, hEQ, HNc.out]; exact ZC6.out)
      clear hnq hEQ
      by_cases k1 : index ≤ fr
      · by_cases k2 : fr ≤ index + (N : Int)
        · have hkn : KN = true := HKN.out.2 ⟨k1, k2⟩
          subst hkn
          have y1 : decide (index ≤ fr) = true := decide_eq_true k1
          have y2 : decide (fr ≤ index + (N : Int)) = true := decide_eq_true k2
          go_enter Try.func8, Try.ntmps8
          go_wp2_with (first
            | (at_builtin; (refine wp_appW DE (by rfl) _ _ rfl (Up (fun k => k = w5.heap.size) (w5.alloc (.cells #[] 32)) w5a) _ v1 La rfl HO6.out A5 nb c5 Lb rfl n5 R5f.out HNb.out a5 Z2.out ?_); intro v2 w5b ho2 hf2; have hbw2 : Below w5.heap.size w5 w5b := HW6.out.trans (hf2.below HW6.out.size (fun k hk => hk.elim (fun q => by omega) (fun q => by have := q.1; simp at this; omega))); obtain ⟨A6, c6, e6, r6, a6, x6, n6⟩ := ho2.form; rw [HNQ.out] at e6 a6; subst e6; have R6 := Lib.hid r6; have R4d := Lib.hid (R4c.out.below hbw2); have K5b := Lib.hid (K5.out.step hbw2); clear ho2 hf2 hbw2 r6)
            | (at_builtin; (refine wp_appW DE (by rfl) _ _ rfl (fun k => k = w5.heap.size) _ _ [] rfl HO5.out A3 na c3 La rfl n3 R3e.out HNa.out a3 Z1.out ?_); intro v1 w5a ho1 hf1; have HW6 := Lib.hid (HW5.out.trans (hf1.below HW5.out.size (fun k hk => by omega))); rw [List.nil_append] at ho1; have HO6 := Lib.hid ho1; have R5f := Lib.hid (R5.out.below HW6.out); have Z2 : Hid (La.length + nb ≤ 1000000) := Lib.hid (by have := ZA.out; have := ZB.out; have := HNa.out; omega); clear ho1 hf1)
            | (go_at_call 9; (with_reducible refine (awake_any _).mono ?_); rintro e w1 ⟨rfl, hb⟩; have B1 := Lib.hid hb; clear hb)
            | (go_at_call 10; (with_reducible refine (new_yes (HR.out w1 B1.out) HN.out HNC.out HNN.out HN6.out HCD.out).mono ?_); rintro e w2 ⟨b, rfl, hl, hb⟩; rw [HT0.out] at hl; have K2 := Lib.hid (Lv.begin (H := fun k => k < w.heap.size) B1.out hb hl HI.out (fun k q => Nat.lt_of_lt_of_le q B1.out.size)); clear hl hb)
            | (go_at_call 24; (with_reducible refine (from_lx K4.out Ifa.out Im.out HLb.out HNb.out).mono ?_); rintro e w5 ⟨A5, c5, rfl, a5, x5, n5, r5, k5, b5⟩; have K5 := Lib.hid k5; have R5 := Lib.hid r5; have R3c := Lib.hid (R3b.out.below b5); have R4c := Lib.hid (R4.out.below b5); have HO5 := Lib.hid (own_new w5); have HW5 := Lib.hid (bel_new w5); have R3e := Lib.hid (R3c.out.below HW5.out); have R5e := Lib.hid (R5.out.below HW5.out); have Z1 : Hid (([] : List En).length + na ≤ 1000000) := Lib.hid (by have := ZA.out; simp; omega); clear r5 k5 b5)
            | (go_at_call 24; (with_reducible refine (from_lx K3.out Ifr.out Inm.out HLc.out HNc.out).mono ?_); rintro e w4 ⟨A4, c4, rfl, a4, x4, n4, r4, k4, b4⟩; have K4 := Lib.hid k4; have R4 := Lib.hid r4; have R3b := Lib.hid (R3.out.below b4); clear r4 k4 b4)
            | (go_at_call 24; (with_reducible refine (from_lx K2.out Ifr.out In.out HLa.out HNa.out).mono ?_); rintro e w3 ⟨A3, c3, rfl, a3, x3, n3, r3, k3, b3⟩; have K3 := Lib.hid k3; have R3 := Lib.hid r3; clear r3 k3 b3)
            | (go_at_call 23; (with_reducible refine (entries_any R6.out R4d.out HNQ.out HNc.out Z6.out ZC6.out).mono ?_); rintro e w6 ⟨rfl, hb⟩; rw [HEQ.out]; have K6 := Lib.hid (K5b.out.step hb); clear hb)
            | (go_at_call 29; (with_reducible refine (HLS.out _ _ _ K6.out.log).mono ?_); rintro e w7 ⟨rfl, hb⟩; have K7 := Lib.hid (K6.out.step hb); clear hb)
            | (go_at_call 18; (with_reducible refine (HTM.out _ _ _ K7.out.log).mono ?_); rintro e w8 ⟨rfl, hb⟩; have K8 := Lib.hid (K7.out.step hb); clear hb))
          go_ret
          exact ⟨rfl, K8.out.bel⟩
        · have hkn : KN = false := by cases KN with
            | false => rfl
            | true => exact absurd (HKN.out.1 rfl).2 k2
          subst hkn
          have y1 : decide (index ≤ fr) = true := decide_eq_true k1
          have y2 : decide (fr ≤ index + (N : Int)) = false := decide_eq_false k2
          go_enter Try.func8, Try.ntmps8
          go_wp2_with (first
            | (at_builtin; (refine wp_appW DE (by rfl) _ _ rfl (Up (fun k => k = w5.heap.size) (w5.alloc (.cells #[] 32)) w5a) _ v1 La rfl HO6.out A5 nb c5 Lb rfl n5 R5f.out HNb.out a5 Z2.out ?_); intro v2 w5b ho2 hf2; have hbw2 : Below w5.heap.size w5 w5b := HW6.out.trans (hf2.below HW6.out.size (fun k hk => hk.elim (fun q => by omega) (fun q => by have := q.1; simp at this; omega))); obtain ⟨A6, c6, e6, r6, a6, x6, n6⟩ := ho2.form; rw [HNQ.out] at e6 a6; subst e6; have R6 := Lib.hid r6; have R4d := Lib.hid (R4c.out.below hbw2); have K5b := Lib.hid (K5.out.step hbw2); clear ho2 hf2 hbw2 r6)
            | (at_builtin; (refine wp_appW DE (by rfl) _ _ rfl (fun k => k = w5.heap.size) _ _ [] rfl HO5.out A3 na c3 La rfl n3 R3e.out HNa.out a3 Z1.out ?_); intro v1 w5a ho1 hf1; have HW6 := Lib.hid (HW5.out.trans (hf1.below HW5.out.size (fun k hk => by omega))); rw [List.nil_append] at ho1; have HO6 := Lib.hid ho1; have R5f := Lib.hid (R5.out.below HW6.out); have Z2 : Hid (La.length + nb ≤ 1000000) := Lib.hid (by have := ZA.out; have := ZB.out; have := HNa.out; omega); clear ho1 hf1)
            | (go_at_call 9; (with_reducible refine (awake_any _).mono ?_); rintro e w1 ⟨rfl, hb⟩; have B1 := Lib.hid hb; clear hb)
            | (go_at_call 10; (with_reducible refine (new_yes (HR.out w1 B1.out) HN.out HNC.out HNN.out HN6.out HCD.out).mono ?_); rintro e w2 ⟨b, rfl, hl, hb⟩; rw [HT0.out] at hl; have K2 := Lib.hid (Lv.begin (H := fun k => k < w.heap.size) B1.out hb hl HI.out (fun k q => Nat.lt_of_lt_of_le q B1.out.size)); clear hl hb)
            | (go_at_call 24; (with_reducible refine (from_lx K4.out Ifa.out Im.out HLb.out HNb.out).mono ?_); rintro e w5 ⟨A5, c5, rfl, a5, x5, n5, r5, k5, b5⟩; have K5 := Lib.hid k5; have R5 := Lib.hid r5; have R3c := Lib.hid (R3b.out.below b5); have R4c := Lib.hid (R4.out.below b5); have HO5 := Lib.hid (own_new w5); have HW5 := Lib.hid (bel_new w5); have R3e := Lib.hid (R3c.out.below HW5.out); have R5e := Lib.hid (R5.out.below HW5.out); have Z1 : Hid (([] : List En).length + na ≤ 1000000) := Lib.hid (by have := ZA.out; simp; omega); clear r5 k5 b5)
            | (go_at_call 24; (with_reducible refine (from_lx K3.out Ifr.out Inm.out HLc.out HNc.out).mono ?_); rintro e w4 ⟨A4, c4, rfl, a4, x4, n4, r4, k4, b4⟩; have K4 := Lib.hid k4; have R4 := Lib.hid r4; have R3b := Lib.hid (R3.out.below b4); clear r4 k4 b4)
            | (go_at_call 24; (with_reducible refine (from_lx K2.out Ifr.out In.out HLa.out HNa.out).mono ?_); rintro e w3 ⟨A3, c3, rfl, a3, x3, n3, r3, k3, b3⟩; have K3 := Lib.hid k3; have R3 := Lib.hid r3; clear r3 k3 b3)
            | (go_at_call 23; (with_reducible refine (entries_any R6.out R4d.out HNQ.out HNc.out Z6.out ZC6.out).mono ?_); rintro e w6 ⟨rfl, hb⟩; rw [HEQ.out]; have K6 := Lib.hid (K5b.out.step hb); clear hb)
            | (go_at_call 29; (with_reducible refine (HLS.out _ _ _ K6.out.log).mono ?_); rintro e w7 ⟨rfl, hb⟩; have K7 := Lib.hid (K6.out.step hb); clear hb)
            | (go_at_call 18; (with_reducible refine (HTM.out _ _ _ K7.out.log).mono ?_); rintro e w8 ⟨rfl, hb⟩; have K8 := Lib.hid (K7.out.step hb); clear hb))
          go_ret
          exact ⟨rfl, K8.out.bel⟩
      · have hkn : KN = false := by cases KN with
          | false => rfl
          | true => exact absurd (HKN.out.1 rfl).1 k1
        subst hkn
        have y1 : decide (index ≤ fr) = false := decide_eq_false k1
        go_enter Try.func8, Try.ntmps8
        go_wp2_with (first
          | (at_builtin; (refine wp_appW DE (by rfl) _ _ rfl (Up (fun k => k = w5.heap.size) (w5.alloc (.cells #[] 32)) w5a) _ v1 La rfl HO6.out A5 nb c5 Lb rfl n5 R5f.out HNb.out a5 Z2.out ?_); intro v2 w5b ho2 hf2; have hbw2 : Below w5.heap.size w5 w5b := HW6.out.trans (hf2.below HW6.out.size (fun k hk => hk.elim (fun q => by omega) (fun q => by have := q.1; simp at this; omega))); obtain ⟨A6, c6, e6, r6, a6, x6, n6⟩ := ho2.form; rw [HNQ.out] at e6 a6; subst e6; have R6 := Lib.hid r6; have R4d := Lib.hid (R4c.out.below hbw2); have K5b := Lib.hid (K5.out.step hbw2); clear ho2 hf2 hbw2 r6)
          | (at_builtin; (refine wp_appW DE (by rfl) _ _ rfl (fun k => k = w5.heap.size) _ _ [] rfl HO5.out A3 na c3 La rfl n3 R3e.out HNa.out a3 Z1.out ?_); intro v1 w5a ho1 hf1; have HW6 := Lib.hid (HW5.out.trans (hf1.below HW5.out.size (fun k hk => by omega))); rw [List.nil_append] at ho1; have HO6 := Lib.hid ho1; have R5f := Lib.hid (R5.out.below HW6.out); have Z2 : Hid (La.length + nb ≤ 1000000) := Lib.hid (by have := ZA.out; have := ZB.out; have := HNa.out; omega); clear ho1 hf1)
          | (go_at_call 9; (with_reducible refine (awake_any _).mono ?_); rintro e w1 ⟨rfl, hb⟩; have B1 := Lib.hid hb; clear hb)
          | (go_at_call 10; (with_reducible refine (new_yes (HR.out w1 B1.out) HN.out HNC.out HNN.out HN6.out HCD.out).mono ?_); rintro e w2 ⟨b, rfl, hl, hb⟩; rw [HT0.out] at hl; have K2 := Lib.hid (Lv.begin (H := fun k => k < w.heap.size) B1.out hb hl HI.out (fun k q => Nat.lt_of_lt_of_le q B1.out.size)); clear hl hb)
          | (go_at_call 24; (with_reducible refine (from_lx K4.out Ifa.out Im.out HLb.out HNb.out).mono ?_); rintro e w5 ⟨A5, c5, rfl, a5, x5, n5, r5, k5, b5⟩; have K5 := Lib.hid k5; have R5 := Lib.hid r5; have R3c := Lib.hid (R3b.out.below b5); have R4c := Lib.hid (R4.out.below b5); have HO5 := Lib.hid (own_new w5); have HW5 := Lib.hid (bel_new w5); have R3e := Lib.hid (R3c.out.below HW5.out); have R5e := Lib.hid (R5.out.below HW5.out); have Z1 : Hid (([] : List En).length + na ≤ 1000000) := Lib.hid (by have := ZA.out; simp; omega); clear r5 k5 b5)
          | (go_at_call 24; (with_reducible refine (from_lx K3.out Ifr.out Inm.out HLc.out HNc.out).mono ?_); rintro e w4 ⟨A4, c4, rfl, a4, x4, n4, r4, k4, b4⟩; have K4 := Lib.hid k4; have R4 := Lib.hid r4; have R3b := Lib.hid (R3.out.below b4); clear r4 k4 b4)
          | (go_at_call 24; (with_reducible refine (from_lx K2.out Ifr.out In.out HLa.out HNa.out).mono ?_); rintro e w3 ⟨A3, c3, rfl, a3, x3, n3, r3, k3, b3⟩; have K3 := Lib.hid k3; have R3 := Lib.hid r3; clear r3 k3 b3)
          | (go_at_call 23; (with_reducible refine (entries_any R6.out R4d.out HNQ.out HNc.out Z6.out ZC6.out).mono ?_); rintro e w6 ⟨rfl, hb⟩; rw [HEQ.out]; have K6 := Lib.hid (K5b.out.step hb); clear hb)
          | (go_at_call 29; (with_reducible refine (HLS.out _ _ _ K6.out.log).mono ?_); rintro e w7 ⟨rfl, hb⟩; have K7 := Lib.hid (K6.out.step hb); clear hb)
          | (go_at_call 18; (with_reducible refine (HTM.out _ _ _ K7.out.log).mono ?_); rintro e w8 ⟨rfl, hb⟩; have K8 := Lib.hid (K7.out.step hb); clear hb))
        go_ret
        exact ⟨rfl, K8.out.bel⟩
    · obtain rfl : na = 0 := by omega
      have HLa : Hid (T.from_ fr 0 = La) := Lib.hid (by have := HLa.out; simpa using this)
      have HLc : Hid (T.from_ fr (mm : Int) = Lc) := Lib.hid (by have := HLc.out; simpa using this)
      have HLb : Hid (T.from_ fr (mm : Int) = Lb) := Lib.hid (by have := HLb.out; simpa using this)
      have In : Hid (I64 0) := Lib.hid ⟨by omega, by omega⟩
      have Inm := Im
      have Ifa := Ifr
      by_cases k1 : index ≤ fr
      · by_cases k2 : fr ≤ index + (N : Int)
        · have hkn : KN = true := HKN.out.2 ⟨k1, k2⟩
          subst hkn
          have y1 : decide (index ≤ fr) = true := decide_eq_true k1
          have y2 : decide (fr ≤ index + (N : Int)) = true := decide_eq_true k2
          go_enter Try.func8, Try.ntmps8
          go_wp2_with (first
            | (go_at_call 9; (with_reducible refine (awake_any _).mono ?_); rintro e w1 ⟨rfl, hb⟩; have B1 := Lib.hid hb; clear hb)
            | (go_at_call 10; (with_reducible refine (new_yes (HR.out w1 B1.out) HN.out HNC.out HNN.out HN6.out HCD.out).mono ?_); rintro e w2 ⟨b, rfl, hl, hb⟩; rw [HT0.out] at hl; have K2 := Lib.hid (Lv.begin (H := fun k => k < w.heap.size) B1.out hb hl HI.out (fun k q => Nat.lt_of_lt_of_le q B1.out.size)); clear hl hb)
            | (go_at_call 24; (with_reducible refine (from_lx K4.out Ifa.out Im.out HLb.out HNb.out).mono ?_); rintro e w5 ⟨A5, c5, rfl, a5, x5, n5, r5, k5, b5⟩; have K5 := Lib.hid k5; have R5 := Lib.hid r5; have R3c := Lib.hid (R3b.out.below b5); have R4c := Lib.hid (R4.out.below b5); have K6 := K5; clear r5 k5 b5)
            | (go_at_call 24; (with_reducible refine (from_lx K3.out Ifr.out Inm.out HLc.out HNc.out).mono ?_); rintro e w4 ⟨A4, c4, rfl, a4, x4, n4, r4, k4, b4⟩; have K4 := Lib.hid k4; have R4 := Lib.hid r4; have R3b := Lib.hid (R3.out.below b4); clear r4 k4 b4)
            | (go_at_call 24; (with_reducible refine (from_lx K2.out Ifr.out In.out HLa.out HNa.out).mono ?_); rintro e w3 ⟨A3, c3, rfl, a3, x3, n3, r3, k3, b3⟩; have K3 := Lib.hid k3; have R3 := Lib.hid r3; clear r3 k3 b3)
            | (go_at_call 23; fail)
            | (go_at_call 29; (with_reducible refine (HLS.out _ _ _ K6.out.log).mono ?_); rintro e w7 ⟨rfl, hb⟩; have K7 := Lib.hid (K6.out.step hb); clear hb)
            | (go_at_call 18; (with_reducible refine (HTM.out _ _ _ K7.out.log).mono ?_); rintro e w8 ⟨rfl, hb⟩; have K8 := Lib.hid (K7.out.step hb); clear hb))
          go_ret
          exact ⟨rfl, K8.out.bel⟩
        · have hkn : KN = false := by cases KN with
            | false => rfl
            | true => exact absurd (HKN.out.1 rfl).2 k2
          subst hkn
          have y1 : decide (index ≤ fr) = true := decide_eq_true k1
          have y2 : decide (fr ≤ index + (N : Int)) = false := decide_eq_false k2
          go_enter Try.func8, Try.ntmps8
          go_wp2_with (first
            | (go_at_call 9; (with_reducible refine (awake_any _).mono ?_); rintro e w1 ⟨rfl, hb⟩; have B1 := Lib.hid hb; clear hb)
            | (go_at_call 10; (with_reducible refine (new_yes (HR.out w1 B1.out) HN.out HNC.out HNN.out HN6.out HCD.out).mono ?_); rintro e w2 ⟨b, rfl, hl, hb⟩; rw [HT0.out] at hl; have K2 := Lib.hid (Lv.begin (H := fun k => k < w.heap.size) B1.out hb hl HI.out (fun k q => Nat.lt_of_lt_of_le q B1.out.size)); clear hl hb)
            | (go_at_call 24; (with_reducible refine (from_lx K4.out Ifa.out Im.out HLb.out HNb.out).mono ?_); rintro e w5 ⟨A5, c5, rfl, a5, x5, n5, r5, k5, b5⟩; have K5 := Lib.hid k5; have R5 := Lib.hid r5; have R3c := Lib.hid (R3b.out.below b5); have R4c := Lib.hid (R4.out.below b5); have K6 := K5; clear r5 k5 b5)
            | (go_at_call 24; (with_reducible refine (from_lx K3.out Ifr.out Inm.out HLc.out HNc.out).mono ?_); rintro e w4 ⟨A4, c4, rfl, a4, x4, n4, r4, k4, b4⟩; have K4 := Lib.hid k4; have R4 := Lib.hid r4; have R3b := Lib.hid (R3.out.below b4); clear r4 k4 b4)
            | (go_at_call 24; (with_reducible refine (from_lx K2.out Ifr.out In.out HLa.out HNa.out).mono ?_); rintro e w3 ⟨A3, c3, rfl, a3, x3, n3, r3, k3, b3⟩; have K3 := Lib.hid k3; have R3 := Lib.hid r3; clear r3 k3 b3)
            | (go_at_call 23; fail)
            | (go_at_call 29; (with_reducible refine (HLS.out _ _ _ K6.out.log).mono ?_); rintro e w7 ⟨rfl, hb⟩; have K7 := Lib.hid (K6.out.step hb); clear hb)
            | (go_at_call 18; (with_reducible refine (HTM.out _ _ _ K7.out.log).mono ?_); rintro e w8 ⟨rfl, hb⟩; have K8 := Lib.hid (K7.out.step hb); clear hb))
          go_ret
          exact ⟨rfl, K8.out.bel⟩
      · have hkn : KN = false := by cases KN with
          | false => rfl
          | true => exact absurd (HKN.out.1 rfl).1 k1
        subst hkn
        have y1 : decide (index ≤ fr) = false := decide_eq_false k1
        go_enter Try.func8, Try.ntmps8
        go_wp2_with (first
          | (go_at_call 9; (with_reducible refine (awake_any _).mono ?_); rintro e w1 ⟨rfl, hb⟩; have B1 := Lib.hid hb; clear hb)
          | (go_at_call 10; (with_reducible refine (new_yes (HR.out w1 B1.out) HN.out HNC.out HNN.out HN6.out HCD.out).mono ?_); rintro e w2 ⟨b, rfl, hl, hb⟩; rw [HT0.out] at hl; have K2 := Lib.hid (Lv.begin (H := fun k => k < w.heap.size) B1.out hb hl HI.out (fun k q => Nat.lt_of_lt_of_le q B1.out.size)); clear hl hb)
          | (go_at_call 24; (with_reducible refine (from_lx K4.out Ifa.out Im.out HLb.out HNb.out).mono ?_); rintro e w5 ⟨A5, c5, rfl, a5, x5, n5, r5, k5, b5⟩; have K5 := Lib.hid k5; have R5 := Lib.hid r5; have R3c := Lib.hid (R3b.out.below b5); have R4c := Lib.hid (R4.out.below b5); have K6 := K5; clear r5 k5 b5)
          | (go_at_call 24; (with_reducible refine (from_lx K3.out Ifr.out Inm.out HLc.out HNc.out).mono ?_); rintro e w4 ⟨A4, c4, rfl, a4, x4, n4, r4, k4, b4⟩; have K4 := Lib.hid k4; have R4 := Lib.hid r4; have R3b := Lib.hid (R3.out.below b4); clear r4 k4 b4)
          | (go_at_call 24; (with_reducible refine (from_lx K2.out Ifr.out In.out HLa.out HNa.out).mono ?_); rintro e w3 ⟨A3, c3, rfl, a3, x3, n3, r3, k3, b3⟩; have K3 := Lib.hid k3; have R3 := Lib.hid r3; clear r3 k3 b3)
          | (go_at_call 23; fail)
          | (go_at_call 29; (with_reducible refine (HLS.out _ _ _ K6.out.log).mono ?_); rintro e w7 ⟨rfl, hb⟩; have K7 := Lib.hid (K6.out.step hb); clear hb)
          | (go_at_call 18; (with_reducible refine (HTM.out _ _ _ K7.out.log).mono ?_); rintro e w8 ⟨rfl, hb⟩; have K8 := Lib.hid (K7.out.step hb); clear hb))
        go_ret
        exact ⟨rfl, K8.out.bel⟩
  · have hc2 : na < nn := by omega
    have h0I : (na : Int) < (nn : Int) := by omega
    have hneI : ((na : Int) == (nn : Int)) = false := by simp; omega
    have hEQ := HSH.out hc2
    have HEQ : Hid (decide (La = Lc) = true) := Lib.hid (by simpa using hEQ)
    have Z6 : Hid (na ≤ 1000000) := Lib.hid (by have := ZA.out; omega)
    by_cases k1 : index ≤ fr
    · by_cases k2 : fr ≤ index + (N : Int)
      · have hkn : KN = true := HKN.out.2 ⟨k1, k2⟩
        subst hkn
        have y1 : decide (index ≤ fr) = true := decide_eq_true k1
        have y2 : decide (fr ≤ index + (N : Int)) = true := decide_eq_true k2
        go_enter Try.func8, Try.ntmps8
        go_wp2_with (first
          | (go_at_call 9; (with_reducible refine (awake_any _).mono ?_); rintro e w1 ⟨rfl, hb⟩; have B1 := Lib.hid hb; clear hb)
          | (go_at_call 10; (with_reducible refine (new_yes (HR.out w1 B1.out) HN.out HNC.out HNN.out HN6.out HCD.out).mono ?_); rintro e w2 ⟨b, rfl, hl, hb⟩; rw [HT0.out] at hl; have K2 := Lib.hid (Lv.begin (H := fun k => k < w.heap.size) B1.out hb hl HI.out (fun k q => Nat.lt_of_lt_of_le q B1.out.size)); clear hl hb)
          | (go_at_call 24; (with_reducible refine (from_lx K4.out Ifa.out Im.out HLb.out HNb.out).mono ?_); rintro e w5 ⟨A5, c5, rfl, a5, x5, n5, r5, k5, b5⟩; have K5 := Lib.hid k5; have R5 := Lib.hid r5; have R3c := Lib.hid (R3b.out.below b5); have R4c := Lib.hid (R4.out.below b5);  clear r5 k5 b5)
          | (go_at_call 24; (with_reducible refine (from_lx K3.out Ifr.out Inm.out HLc.out HNc.out).mono ?_); rintro e w4 ⟨A4, c4, rfl, a4, x4, n4, r4, k4, b4⟩; have K4 := Lib.hid k4; have R4 := Lib.hid r4; have R3b := Lib.hid (R3.out.below b4); clear r4 k4 b4)
          | (go_at_call 24; (with_reducible refine (from_lx K2.out Ifr.out In.out HLa.out HNa.out).mono ?_); rintro e w3 ⟨A3, c3, rfl, a3, x3, n3, r3, k3, b3⟩; have K3 := Lib.hid k3; have R3 := Lib.hid r3; clear r3 k3 b3)
          | (go_at_call 23; (with_reducible refine (entries_any R3c.out R4c.out HNa.out HNc.out Z6.out ZC6.out).mono ?_); rintro e w6 ⟨rfl, hb⟩; rw [HEQ.out]; have K6 := Lib.hid (K5.out.step hb); clear hb)
          | (go_at_call 29; (with_reducible refine (HLS.out _ _ _ K6.out.log).mono ?_); rintro e w7 ⟨rfl, hb⟩; have K7 := Lib.hid (K6.out.step hb); clear hb)
          | (go_at_call 18; (with_reducible refine (HTM.out _ _ _ K7.out.log).mono ?_); rintro e w8 ⟨rfl, hb⟩; have K8 := Lib.hid (K7.out.step hb); clear hb))
        go_ret
        exact ⟨rfl, K8.out.bel⟩
      · have hkn : KN = false := by cases KN with
          | false => rfl
          | true => exact absurd (HKN.out.1 rfl).2 k2
        subst hkn
        have y1 : decide (index ≤ fr) = true := decide_eq_true k1
        have y2 : decide (fr ≤ index + (N : Int)) = false := decide_eq_false k2
        go_enter Try.func8, Try.ntmps8
        go_wp2_with (first
          | (go_at_call 9; (with_reducible refine (awake_any _).mono ?_); rintro e w1 ⟨rfl, hb⟩; have B1 := Lib.hid hb; clear hb)
          | (go_at_call 10; (with_reducible refine (new_yes (HR.out w1 B1.out) HN.out HNC.out HNN.out HN6.out HCD.out).mono ?_); rintro e w2 ⟨b, rfl, hl, hb⟩; rw [HT0.out] at hl; have K2 := Lib.hid (Lv.begin (H := fun k => k < w.heap.size) B1.out hb hl HI.out (fun k q => Nat.lt_of_lt_of_le q B1.out.size)); clear hl hb)
          | (go_at_call 24; (with_reducible refine (from_lx K4.out Ifa.out Im.out HLb.out HNb.out).mono ?_); rintro e w5 ⟨A5, c5, rfl, a5, x5, n5, r5, k5, b5⟩; have K5 := Lib.hid k5; have R5 := Lib.hid r5; have R3c := Lib.hid (R3b.out.below b5); have R4c := Lib.hid (R4.out.below b5);  clear r5 k5 b5)
          | (go_at_call 24; (with_reducible refine (from_lx K3.out Ifr.out Inm.out HLc.out HNc.out).mono ?_); rintro e w4 ⟨A4, c4, rfl, a4, x4, n4, r4, k4, b4⟩; have K4 := Lib.hid k4; have R4 := Lib.hid r4; have R3b := Lib.hid (R3.out.below b4); clear r4 k4 b4)
          | (go_at_call 24; (with_reducible refine (from_lx K2.out Ifr.out In.out HLa.out HNa.out).mono ?_); rintro e w3 ⟨A3, c3, rfl, a3, x3, n3, r3, k3, b3⟩; have K3 := Lib.hid k3; have R3 := Lib.hid r3; clear r3 k3 b3)
          | (go_at_call 23; (with_reducible refine (entries_any R3c.out R4c.out HNa.out HNc.out Z6.out ZC6.out).mono ?_); rintro e w6 ⟨rfl, hb⟩; rw [HEQ.out]; have K6 := Lib.hid (K5.out.step hb); clear hb)
          | (go_at_call 29; (with_reducible refine (HLS.out _ _ _ K6.out.log).mono ?_); rintro e w7 ⟨rfl, hb⟩; have K7 := Lib.hid (K6.out.step hb); clear hb)
          | (go_at_call 18; (with_reducible refine (HTM.out _ _ _ K7.out.log).mono ?_); rintro e w8 ⟨rfl, hb⟩; have K8 := Lib.hid (K7.out.step hb); clear hb))
        go_ret
        exact ⟨rfl, K8.out.bel⟩
    · have hkn : KN = false := by cases KN with
        | false => rfl
        | true => exact absurd (HKN.out.1 rfl).1 k1
      subst hkn
      have y1 : decide (index ≤ fr) = false := decide_eq_false k1
      go_enter Try.func8, Try.ntmps8
      go_wp2_with (first
        | (go_at_call 9; (with_reducible refine (awake_any _).mono ?_); rintro e w1 ⟨rfl, hb⟩; have B1 := Lib.hid hb; clear hb)
        | (go_at_call 10; (with_reducible refine (new_yes (HR.out w1 B1.out) HN.out HNC.out HNN.out HN6.out HCD.out).mono ?_); rintro e w2 ⟨b, rfl, hl, hb⟩; rw [HT0.out] at hl; have K2 := Lib.hid (Lv.begin (H := fun k => k < w.heap.size) B1.out hb hl HI.out (fun k q => Nat.lt_of_lt_of_le q B1.out.size)); clear hl hb)
        | (go_at_call 24; (with_reducible refine (from_lx K4.out Ifa.out Im.out HLb.out HNb.out).mono ?_); rintro e w5 ⟨A5, c5, rfl, a5, x5, n5, r5, k5, b5⟩; have K5 := Lib.hid k5; have R5 := Lib.hid r5; have R3c := Lib.hid (R3b.out.below b5); have R4c := Lib.hid (R4.out.below b5);  clear r5 k5 b5)
        | (go_at_call 24; (with_reducible refine (from_lx K3.out Ifr.out Inm.out HLc.out HNc.out).mono ?_); rintro e w4 ⟨A4, c4, rfl, a4, x4, n4, r4, k4, b4⟩; have K4 := Lib.hid k4; have R4 := Lib.hid r4; have R3b := Lib.hid (R3.out.below b4); clear r4 k4 b4)
        | (go_at_call 24; (with_reducible refine (from_lx K2.out Ifr.out In.out HLa.out HNa.out).mono ?_); rintro e w3 ⟨A3, c3, rfl, a3, x3, n3, r3, k3, b3⟩; have K3 := Lib.hid k3; have R3 := Lib.hid r3; clear r3 k3 b3)
        | (go_at_call 23; (with_reducible refine (entries_any R3c.out R4c.out HNa.out HNc.out Z6.out ZC6.out).mono ?_); rintro e w6 ⟨rfl, hb⟩; rw [HEQ.out]; have K6 := Lib.hid (K5.out.step hb); clear hb)
        | (go_at_call 29; (with_reducible refine (HLS.out _ _ _ K6.out.log).mono ?_); rintro e w7 ⟨rfl, hb⟩; have K7 := Lib.hid (K6.out.step hb); clear hb)
        | (go_at_call 18; (with_reducible refine (HTM.out _ _ _ K7.out.log).mono ?_); rintro e w8 ⟨rfl, hb⟩; have K8 := Lib.hid (K7.out.step hb); clear hb))
      go_ret
      exact ⟨rfl, K8.out.bel⟩
end Go.Proofs.Ytlimjfnolidbmaa
