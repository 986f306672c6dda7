import Derived.Test.YtlimjfnolidbmaaAx
namespace Go.Proofs.Ytlimjfnolidbmaa
set_option maxRecDepth 20000
open Go.RowKit RL
set_option linter.unusedVariables false
/-! ### the law RlogAgain -/
set_option maxHeartbeats 8000000 in
theorem law_again (index term : Int) (A : Option Addr) (N c : Nat) (L : List En) (x : Ac) (w : World) (i1 : -9223372036854775808 ≤ index) (i2 : index ≤ 9223372036854775807) (t1 : -9223372036854775808 ≤ term) (t2 : term ≤ 9223372036854775807) (hA : SlA DE w EnOk A N c L) (hx : AcOk w x) :
    Calls Try.prog 6 #[.int .i64 index, .int .i64 term, .slice A N c, .agg #[.int .i64 x.k, .int .i64 x.a, .int .i64 x.b, .slice x.A x.n x.c]] w (RetBelow (.bool true) w) := by
  have HW1 : Hid (Below w.heap.size w (w.alloc (.cells #[.int .i64 x.k, .int .i64 x.a, .int .i64 x.b, .slice x.A x.n x.c] 34))) := Lib.hid ((Below.refl _ w).alloc (Nat.le_refl _) _)
  have HC : Hid (∀ X, Below (w.alloc (.cells #[.int .i64 x.k, .int .i64 x.a, .int .i64 x.b, .slice x.A x.n x.c] 34)).heap.size (w.alloc (.cells #[.int .i64 x.k, .int .i64 x.a, .int .i64 x.b, .slice x.A x.n x.c] 34)) X → X.cell? ⟨w.heap.size, 0, none⟩ = some (.int .i64 x.k) ∧ X.cell? ⟨w.heap.size, 1, none⟩ = some (.int .i64 x.a) ∧ X.cell? ⟨w.heap.size, 2, none⟩ = some (.int .i64 x.b) ∧ X.cell? ⟨w.heap.size, 3, none⟩ = some (.slice x.A x.n x.c)) := Lib.hid fun X hX => acells ((hX.block _ (by simp)).trans (heap_alloc_new w _))
  have HRA : Hid (Rd DE (w.alloc (.cells #[.int .i64 x.k, .int .i64 x.a, .int .i64 x.b, .slice x.A x.n x.c] 34)) (fun k => k < w.heap.size) A L) := Lib.hid (hA.rd.below HW1.out)
  have HRX : Hid (Rd DE (w.alloc (.cells #[.int .i64 x.k, .int .i64 x.a, .int .i64 x.b, .slice x.A x.n x.c] 34)) (fun k => k < w.heap.size) x.A x.L) := Lib.hid (hx.l.rd.below HW1.out)
  have HSZ : Hid (w.heap.size ≤ (w.alloc (.cells #[.int .i64 x.k, .int .i64 x.a, .int .i64 x.b, .slice x.A x.n x.c] 34)).heap.size) := Lib.hid HW1.out.size
  obtain ⟨W1, hW1⟩ : ∃ W1, w.alloc (.cells #[.int .i64 x.k, .int .i64 x.a, .int .i64 x.b, .slice x.A x.n x.c] 34) = W1 := ⟨_, rfl⟩
  rw [hW1] at HW1 HC HRA HRX HSZ
  have HWE := Lib.hid hW1
  clear hW1
  by_cases q0 : index < 0
  · have g0 : decide (index < 0) = true := decide_eq_true q0
    go_enter Try.func6, Try.ntmps6
    go_wp2_with (go_at_call 9; (with_reducible refine (awake_any _).mono ?_); rintro e w1 ⟨rfl, hb⟩; rw [HWE.out] at hb; have B1 := Lib.hid hb; obtain ⟨m0, m1, m2, m3⟩ := HC.out _ hb; clear hb)
    go_ret
    exact ⟨rfl, HW1.out.trans (B1.out.mono HW1.out.size)⟩
  have g0 : decide (index < 0) = false := decide_eq_false q0
  by_cases q1 : 1099511627776 < index
  · have g1 : decide (1099511627776 < index) = true := decide_eq_true q1
    go_enter Try.func6, Try.ntmps6
    go_wp2_with (go_at_call 9; (with_reducible refine (awake_any _).mono ?_); rintro e w1 ⟨rfl, hb⟩; rw [HWE.out] at hb; have B1 := Lib.hid hb; obtain ⟨m0, m1, m2, m3⟩ := HC.out _ hb; clear hb)
    go_ret
    exact ⟨rfl, HW1.out.trans (B1.out.mono HW1.out.size)⟩
  have g1 : decide (1099511627776 < index) = false := decide_eq_false q1
  by_cases q2 : term < 0
  · have g2 : decide (term < 0) = true := decide_eq_true q2
    go_enter Try.func6, Try.ntmps6
    go_wp2_with (go_at_call 9; (with_reducible refine (awake_any _).mono ?_); rintro e w1 ⟨rfl, hb⟩; rw [HWE.out] at hb; have B1 := Lib.hid hb; obtain ⟨m0, m1, m2, m3⟩ := HC.out _ hb; clear hb)
    go_ret
    exact ⟨rfl, HW1.out.trans (B1.out.mono HW1.out.size)⟩
  have g2 : decide (term < 0) = false := decide_eq_false q2
  by_cases q3 : (1024 : Int) < (N : Int)
  · have g3 : decide ((1024 : Int) < (N : Int)) = true := decide_eq_true q3
    go_enter Try.func6, Try.ntmps6
    go_wp2_with (go_at_call 9; (with_reducible refine (awake_any _).mono ?_); rintro e w1 ⟨rfl, hb⟩; rw [HWE.out] at hb; have B1 := Lib.hid hb; obtain ⟨m0, m1, m2, m3⟩ := HC.out _ hb; clear hb)
    go_ret
    exact ⟨rfl, HW1.out.trans (B1.out.mono HW1.out.size)⟩
  have g3 : decide ((1024 : Int) < (N : Int)) = false := decide_eq_false q3
  by_cases q4 : (1024 : Int) < (x.n : Int)
  · have g4 : decide ((1024 : Int) < (x.n : Int)) = true := decide_eq_true q4
    go_enter Try.func6, Try.ntmps6
    go_wp2_with (go_at_call 9; (with_reducible refine (awake_any _).mono ?_); rintro e w1 ⟨rfl, hb⟩; rw [HWE.out] at hb; have B1 := Lib.hid hb; obtain ⟨m0, m1, m2, m3⟩ := HC.out _ hb; clear hb)
    go_ret
    exact ⟨rfl, HW1.out.trans (B1.out.mono HW1.out.size)⟩
  have g4 : decide ((1024 : Int) < (x.n : Int)) = false := decide_eq_false q4
  obtain ⟨T, hT⟩ : ∃ T : Lg, (⟨index, term, L⟩ : Lg) = T := ⟨_, rfl⟩
  have HT0 := Lib.hid hT
  have hti : T.i = index := by rw [← hT]
  have htL : T.L = L := by rw [← hT]
  have HI : Hid (Inv T) := Lib.hid (by
    have := hA.ln
    rw [← hT]
    exact ⟨by show 0 ≤ index; omega, by show index + (L.length : Int) ≤ _; omega, ⟨by show _ ≤ term; omega, by show term ≤ _; omega⟩, hA.all, by show L.length ≤ _; omega⟩)
  have HN := Lib.hid hA.ln
  have HNC := Lib.hid hA.le
  have HNN := Lib.hid hA.nn
  have HN6 : Hid (N ≤ 1000000) := Lib.hid (by omega)
  have HX1 := Lib.hid hx.l.ln
  have HX2 := Lib.hid hx.l.le
  have HX3 := Lib.hid hx.l.cm
  have HX4 : Hid (∀ y ∈ x.L, I64 y.t) := Lib.hid hx.l.all
  have HXa := Lib.hid hx.a
  have HXn : Hid (x.n ≤ 1024) := Lib.hid (by omega)
  have HCD : Hid (0 ≤ index ∧ 0 ≤ term ∧ index ≤ 4611686018427387904 - (L.length : Int)) := Lib.hid (by have := hA.ln; omega)
  have I1 : Hid (I64 (index + 1)) := Lib.hid ⟨by omega, by omega⟩
  have I2 : Hid (I64 1048576) := Lib.hid ⟨by omega, by omega⟩
  have HL1 : Hid (T.L.length + x.n ≤ 400000) := Lib.hid (by have := hA.ln; rw [htL]; omega)
  have HF0 : Hid (T.from_ (index + 1) 1048576 = L) := Lib.hid (by have := from_all T (n := 1048576) (by have := hA.ln; rw [htL]; omega); rw [hti, htL] at this; exact this)
  have ib0 : 0 ≤ index := by omega
  have ib1 : index ≤ 1099511627776 := by omega
  have Xn : (x.n : Int) ≤ 1024 := by omega
  have hpl := put_len T x.a x.b x.L
  have hpi := (put_i T x.a x.b x.L).1
  have hpv := inv_put2 HI.out (p := x.a) (t := x.b) hx.l.all (by have := hA.ln; have := hx.l.ln; rw [htL]; omega)
  have hT0 : 0 ≤ T.i := by omega
  have hpe := put_err (T := T) (p := x.a) (t := x.b) (l := x.L)
  have hpt := put_there hT0 (p := x.a) (t := x.b) (l := x.L)
  have hpa := put_again (T := T) (p := x.a) (t := x.b) (l := x.L)
  have hpz := put_zero hT0 (p := x.a) (t := x.b) (l := x.L)
  have hrf := fun (h : (T.put x.a x.b x.L).2.2 = 0) => (show 0 ≤ x.a ∧ x.a + x.n ≤ 4611686018427387904 from by
    unfold Lg.put at h
    by_cases hr : T.refuse x.a x.b x.L.length = 0
    · have := refuse_zero hr
      rw [hx.l.ln] at this
      omega
    · rw [if_neg hr] at h; exact absurd h hr)
  have hAln := hA.ln
  have Nn : N ≤ 1024 := by omega
  clear hA hx q0 q1 q2 q3 q4
  obtain ⟨T', hT'⟩ : ∃ T', (T.put x.a x.b x.L).1 = T' := ⟨_, rfl⟩
  obtain ⟨aa, haa⟩ : ∃ a, (T.put x.a x.b x.L).2.1 = a := ⟨_, rfl⟩
  obtain ⟨ee, hee⟩ : ∃ e, (T.put x.a x.b x.L).2.2 = e := ⟨_, rfl⟩
  rw [hT'] at hpl hpi hpv
  rw [hee] at hpe hpt hpa hrf
  rw [haa] at hpz
  rw [hT'] at hpt hpa hpz
  have HP1 := Lib.hid hT'
  have HP2 := Lib.hid haa
  have HP3 := Lib.hid hee
  by_cases he : ee = 0
  · subst he
    obtain ⟨p0, pM⟩ := hrf rfl
    have HTH : Hid (∀ (i : Nat) (y : En), x.L[i]? = some y → index < x.a + 1 + i → T'.term (x.a + 1 + (i : Int)) = some y.t) := Lib.hid fun i y hy hlt => hpt rfl i y hy (by omega)
    have HPA : Hid (T'.put x.a x.b x.L = (T', 0, 0)) := Lib.hid (hpa rfl)
    have HI' := Lib.hid hpv
    obtain ⟨L', hL'⟩ : ∃ l, T'.L = l := ⟨_, rfl⟩
    obtain ⟨n', hn'⟩ : ∃ k, L'.length = k := ⟨_, rfl⟩
    have HNL := Lib.hid hn'
    have hl2 : n' ≤ 2048 := by have := HX1.out; have := HXn.out; rw [hL', hn', htL] at hpl; omega
    have HF1 : Hid (T'.from_ (index + 1) 1048576 = L') := Lib.hid (by have := from_all T' (n := 1048576) (by rw [hL', hn']; omega); rw [hpi, hti, hL'] at this; exact this)
    have HL2 : Hid (T'.L.length + x.n ≤ 400000) := Lib.hid (by have := HXn.out; rw [hL', hn']; omega)
    have Z1 : Hid (n' ≤ 1000000) := Lib.hid (by omega)
    have EZ : Hid (aa = 0 → decide (L' = L) = true) := Lib.hid fun h => by have := hpz h; rw [this] at hL'; rw [← hL', htL]; simp
    clear hpl hpi hpv hpe hpt hpa hpz hrf hti htL hT hT0 hT' haa hee hL' hn'
    go_enter Try.func6, Try.ntmps6
    go_wp2_with (first
      | (go_at_call 9; (with_reducible refine (awake_any _).mono ?_); rintro e w1 ⟨rfl, hb⟩; rw [HWE.out] at hb; have B1 := Lib.hid hb; obtain ⟨m0, m1, m2, m3⟩ := HC.out _ hb; clear hb)
      | (go_at_call 10; (with_reducible refine (new_yes (HRA.out.below B1.out) HN.out HNC.out HNN.out HN6.out HCD.out).mono ?_); rintro e w2 ⟨b, rfl, hl, hb⟩; rw [HT0.out] at hl; have K2 := Lib.hid (Lv.begin (w0 := W1) (H := fun k => k < w.heap.size) B1.out hb hl HI.out (fun k q => Nat.lt_of_lt_of_le (Nat.lt_of_lt_of_le q HSZ.out) B1.out.size)); obtain ⟨m0, m1, m2, m3⟩ := HC.out _ K2.out.bel; clear hl hb)
      | (go_at_call 24; (with_reducible refine (from_lx K4.out I1.out I2.out HF1.out HNL.out).mono ?_); rintro e w5 ⟨A5, c5, rfl, a5, x5, n5, r5, k5, b5⟩; have K5 := Lib.hid k5; have R5 := Lib.hid r5; have R4b := Lib.hid (R4.out.below b5); have RX5 := Lib.hid ((RX4.out.below b5).mono (H' := fun k => (k < w.heap.size ∨ (w2.heap.size ≤ k ∧ k < w3.heap.size)) ∨ (w4.heap.size ≤ k ∧ k < w5.heap.size)) fun k _ q => .inl q); obtain ⟨m0, m1, m2, m3⟩ := HC.out _ K5.out.bel; clear r5 k5 b5)
      | (go_at_call 24; (with_reducible refine (from_lx K2.out I1.out I2.out HF0.out HN.out).mono ?_); rintro e w3 ⟨A3, c3, rfl, a3, x3, n3, r3, k3, b3⟩; have K3 := Lib.hid k3; have R3 := Lib.hid r3; have RX3 := Lib.hid ((HRX.out.below K3.out.bel).mono (H' := fun k => k < w.heap.size ∨ (w2.heap.size ≤ k ∧ k < w3.heap.size)) fun k _ q => .inl q); obtain ⟨m0, m1, m2, m3⟩ := HC.out _ K3.out.bel; clear r3 k3 b3)
      | (go_at_call 13; (with_reducible refine (put_lv K3.out RX3.out HX1.out HX2.out HX3.out HL1.out HXa.out HX4.out).mono ?_); rintro e w4 ⟨rfl, S4, hk, hf⟩; rw [HP1.out] at hk; rw [HP2.out, HP3.out]; have K4 := Lib.hid hk; have R4 := Lib.hid (K3.out.rd hf R3.out); have RX4 := Lib.hid (K3.out.rd hf RX3.out); obtain ⟨m0, m1, m2, m3⟩ := HC.out _ K4.out.bel; clear hk hf))
    go_loopw [83] (fun iV wr => ∃ j : Nat, iV = .int .i64 (j : Int) ∧ j ≤ x.n ∧ Below w5.heap.size w5 wr) (fun iV _ => x.n - (intOf iV).toNat)
    case atStart => exact ⟨0, rfl, Nat.zero_le _, Below.refl _ _⟩
    case round =>
      obtain ⟨j, rfl, hj, hb⟩ := hrel
      have HB := Lib.hid hb
      have KR := Lib.hid (K5.out.step hb)
      obtain ⟨m0, m1, m2, m3⟩ := HC.out _ KR.out.bel
      clear hb
      by_cases hlt : j < x.n
      · have i1j : (j : Int) < (x.n : Int) := by omega
        have HTM : Hid (∀ X S, Log X b T' S → Calls Try.prog 18 #[.pointer (some ⟨b, 0, none⟩), .int .i64 (x.a + 1 + (j : Int))] X (RetBelow (.tuple #[.int .i64 ((T'.term (x.a + 1 + (j : Int))).getD 0), .bool (T'.term (x.a + 1 + (j : Int))).isSome]) X)) := Lib.hid fun X S h => term_any h HI'.out ⟨by omega, by omega⟩
        obtain ⟨y, hy⟩ : ∃ y, x.L[j]? = some y := ⟨_, List.getElem?_eq_getElem (by have := HX1.out; omega)⟩
        by_cases hgt : index < x.a + 1 + (j : Int)
        · have g5 : decide (index < x.a + 1 + (j : Int)) = true := decide_eq_true hgt
          have ht := HTH.out j y hy hgt
          rw [ht] at HTM
          have HRJ := Lib.hid fun (X : World) (hX : Below w5.heap.size w5 X) => (RX5.out.below hX).at_ hy
          obtain ⟨q0, o0, hqa, _, hql, hqc⟩ := RX5.out.at_ hy
          have HQC : Hid (∀ X, Below w5.heap.size w5 X → X.cell? ⟨q0, o0 + j * 2, none⟩ = some (.int .i64 y.t)) := Lib.hid fun X hX => cellB (hqc 0 _ rfl) hX hql
          rw [hqa] at m3
          have HQA := Lib.hid hqa
          clear ht hy hgt hqc hqa HRJ
          go_wp2_with (go_at_call 18; (with_reducible refine (HTM.out _ _ KR.out.log).mono ?_); rintro e w6 ⟨rfl, hb⟩; have HB6 := Lib.hid (HB.out.trans (hb.mono HB.out.size)); have d0 := HQC.out _ HB6.out; have m3b := (HC.out _ (K5.out.step HB6.out).bel).2.2.2; rw [HQA.out] at m3b; clear hb)
          go_roundw
          case rel => exact ⟨j + 1, rfl, by omega, HB6.out⟩
          case measure => simp [intOf]; omega
        · have g5 : decide (index < x.a + 1 + (j : Int)) = false := decide_eq_false hgt
          clear hy hgt
          go_wp2_with (go_at_call 18; (with_reducible refine (HTM.out _ _ KR.out.log).mono ?_); rintro e w6 ⟨rfl, hb⟩; have HB6 := Lib.hid (HB.out.trans (hb.mono HB.out.size)); clear hb)
          go_roundw
          case rel => exact ⟨j + 1, rfl, by omega, HB6.out⟩
          case measure => simp [intOf]; omega
      · obtain rfl : j = x.n := by omega
        have R5b := Lib.hid (R5.out.below HB.out)
        have R4c := Lib.hid (R4b.out.below HB.out)
        have RX6 := Lib.hid (RX5.out.below HB.out)
        by_cases ha0 : aa = 0
        · have hLL : L' = L := by have := EZ.out ha0; simpa using this
          subst hLL ha0
          clear EZ
          go_wp2_with (first
            | (go_at_call 13; (with_reducible refine (put_lv KR.out RX6.out HX1.out HX2.out HX3.out HL2.out HXa.out HX4.out).mono ?_); rintro e w7 ⟨rfl, S7, hk, hf⟩; rw [HPA.out] at hk ⊢; have K7 := Lib.hid hk; have R7 := Lib.hid (KR.out.rd hf R5b.out); have R7b := Lib.hid (R4c.out.keep hf.size fun k _ q => hf.block k ‹_› fun q2 => (KR.out.hd k (.inl q)).2 q2); clear hk hf)
            | (go_at_call 24; (with_reducible refine (from_lx K7.out I1.out I2.out HF1.out HNL.out).mono ?_); rintro e w8 ⟨A8, c8, rfl, a8, x8, n8, r8, k8, b8⟩; have K8 := Lib.hid k8; have R8 := Lib.hid r8; have R8b := Lib.hid (R7.out.below b8); have R8c := Lib.hid (R7b.out.below b8); clear r8 k8 b8)
            | (go_at_call 23; (with_reducible refine (entries_same R9b.out R9c.out HNL.out HN.out Z1.out HN6.out).mono ?_); rintro e w10 ⟨rfl, hb⟩; have K10 := Lib.hid (K9.out.step hb); clear hb)
            | (go_at_call 23; (with_reducible refine (entries_same R8.out R8b.out HNL.out HNL.out Z1.out Z1.out).mono ?_); rintro e w9 ⟨rfl, hb⟩; have K9 := Lib.hid (K8.out.step hb); have R9b := Lib.hid (R8b.out.below hb); have R9c := Lib.hid (R8c.out.below hb); clear hb))
          go_ret
          exact ⟨rfl, HW1.out.trans (K10.out.bel.mono HW1.out.size)⟩
        · have g6 : (aa == 0) = false := by simpa using ha0
          go_wp2_with (first
            | (go_at_call 13; (with_reducible refine (put_lv KR.out RX6.out HX1.out HX2.out HX3.out HL2.out HXa.out HX4.out).mono ?_); rintro e w7 ⟨rfl, S7, hk, hf⟩; rw [HPA.out] at hk ⊢; have K7 := Lib.hid hk; have R7 := Lib.hid (KR.out.rd hf R5b.out); have R7b := Lib.hid (R4c.out.keep hf.size fun k _ q => hf.block k ‹_› fun q2 => (KR.out.hd k (.inl q)).2 q2); clear hk hf)
            | (go_at_call 24; (with_reducible refine (from_lx K7.out I1.out I2.out HF1.out HNL.out).mono ?_); rintro e w8 ⟨A8, c8, rfl, a8, x8, n8, r8, k8, b8⟩; have K8 := Lib.hid k8; have R8 := Lib.hid r8; have R8b := Lib.hid (R7.out.below b8); have R8c := Lib.hid (R7b.out.below b8); clear r8 k8 b8)
            | (go_at_call 23; (with_reducible refine (entries_same R8.out R8b.out HNL.out HNL.out Z1.out Z1.out).mono ?_); rintro e w9 ⟨rfl, hb⟩; have K9 := Lib.hid (K8.out.step hb); have R9b := Lib.hid (R8b.out.below hb); have R9c := Lib.hid (R8c.out.below hb); clear hb))
          go_ret
          exact ⟨rfl, HW1.out.trans (K9.out.bel.mono HW1.out.size)⟩
  · obtain ⟨hq1, hq2⟩ := hpe he
    have e1 : T' = T := by rw [← hT', hq1]
    have e2 : aa = 0 := by rw [← haa, hq1]
    subst e1 e2
    have g7 : (ee == 0) = false := by simpa using he
    clear hpl hpi hpv hpe hpt hpa hpz hrf hti htL hT hT0 hT' haa hee hq1 hq2 he
    go_enter Try.func6, Try.ntmps6
    go_wp2_with (first
      | (go_at_call 9; (with_reducible refine (awake_any _).mono ?_); rintro e w1 ⟨rfl, hb⟩; rw [HWE.out] at hb; have B1 := Lib.hid hb; obtain ⟨m0, m1, m2, m3⟩ := HC.out _ hb; clear hb)
      | (go_at_call 10; (with_reducible refine (new_yes (HRA.out.below B1.out) HN.out HNC.out HNN.out HN6.out HCD.out).mono ?_); rintro e w2 ⟨b, rfl, hl, hb⟩; rw [HT0.out] at hl; have K2 := Lib.hid (Lv.begin (w0 := W1) (H := fun k => k < w.heap.size) B1.out hb hl HI.out (fun k q => Nat.lt_of_lt_of_le (Nat.lt_of_lt_of_le q HSZ.out) B1.out.size)); obtain ⟨m0, m1, m2, m3⟩ := HC.out _ K2.out.bel; clear hl hb)
      | (go_at_call 24; (with_reducible refine (from_lx K4.out I1.out I2.out HF0.out HN.out).mono ?_); rintro e w5 ⟨A5, c5, rfl, a5, x5, n5, r5, k5, b5⟩; have K5 := Lib.hid k5; have R5 := Lib.hid r5; have R4b := Lib.hid (R4.out.below b5); clear r5 k5 b5)
      | (go_at_call 24; (with_reducible refine (from_lx K2.out I1.out I2.out HF0.out HN.out).mono ?_); rintro e w3 ⟨A3, c3, rfl, a3, x3, n3, r3, k3, b3⟩; have K3 := Lib.hid k3; have R3 := Lib.hid r3; have RX3 := Lib.hid ((HRX.out.below K3.out.bel).mono (H' := fun k => k < w.heap.size ∨ (w2.heap.size ≤ k ∧ k < w3.heap.size)) fun k _ q => .inl q); obtain ⟨m0, m1, m2, m3⟩ := HC.out _ K3.out.bel; clear r3 k3 b3)
      | (go_at_call 13; (with_reducible refine (put_lv K3.out RX3.out HX1.out HX2.out HX3.out HL1.out HXa.out HX4.out).mono ?_); rintro e w4 ⟨rfl, S4, hk, hf⟩; rw [HP1.out] at hk; rw [HP2.out, HP3.out]; have K4 := Lib.hid hk; have R4 := Lib.hid (K3.out.rd hf R3.out); have RX4 := Lib.hid (K3.out.rd hf RX3.out); obtain ⟨m0, m1, m2, m3⟩ := HC.out _ K4.out.bel; clear hk hf)
      | (go_at_call 23; (with_reducible refine (entries_same R5.out R4b.out HN.out HN.out HN6.out HN6.out).mono ?_); rintro e w6 ⟨rfl, hb⟩; have K6 := Lib.hid (K5.out.step hb); clear hb))
    go_ret
    exact ⟨rfl, HW1.out.trans (K6.out.bel.mono HW1.out.size)⟩
end Go.Proofs.Ytlimjfnolidbmaa
