import Derived.Test.YtlimjfnolidbmaaL2
namespace Go.Proofs.Ytlimjfnolidbmaa
set_option maxRecDepth 20000
open Go.RowKit RL
set_option linter.unusedVariables false
/-! ### the law RlogCuts -/
set_option maxHeartbeats 8000000 in
theorem law_cuts (index term : Int) (A : Option Addr) (N c : Nat) (L : List En) (cu : Int) (A2 : Option Addr) (M c2 : Nat) (acts : List Ac) (w : World) (i1 : -9223372036854775808 ≤ index) (i2 : index ≤ 9223372036854775807) (t1 : -9223372036854775808 ≤ term) (t2 : term ≤ 9223372036854775807) (hA : SlA DE w EnOk A N c L) (u1 : -9223372036854775808 ≤ cu) (u2 : cu ≤ 9223372036854775807) (hB : SlA DC w (AcOk w) A2 M c2 acts) :
    Calls Try.prog 5 #[.int .i64 index, .int .i64 term, .slice A N c, .int .i64 cu, .slice A2 M c2] w (RetBelow (.bool true) w) := by
  by_cases q0 : index < 0
  · have g0 : decide (index < 0) = true := decide_eq_true q0
    go_enter Try.func5, Try.ntmps5
    go_wp2_with (go_at_call 9; (with_reducible refine (awake_any _).mono ?_); rintro e w1 ⟨rfl, hb⟩; have B1 := Lib.hid hb; clear hb)
    go_ret
    exact ⟨rfl, B1.out⟩
  have g0 : decide (index < 0) = false := decide_eq_false q0
  by_cases q1 : 1099511627776 < index
  · have g1 : decide (1099511627776 < index) = true := decide_eq_true q1
    go_enter Try.func5, Try.ntmps5
    go_wp2_with (go_at_call 9; (with_reducible refine (awake_any _).mono ?_); rintro e w1 ⟨rfl, hb⟩; have B1 := Lib.hid hb; clear hb)
    go_ret
    exact ⟨rfl, B1.out⟩
  have g1 : decide (1099511627776 < index) = false := decide_eq_false q1
  by_cases q2 : term < 0
  · have g2 : decide (term < 0) = true := decide_eq_true q2
    go_enter Try.func5, Try.ntmps5
    go_wp2_with (go_at_call 9; (with_reducible refine (awake_any _).mono ?_); rintro e w1 ⟨rfl, hb⟩; have B1 := Lib.hid hb; clear hb)
    go_ret
    exact ⟨rfl, B1.out⟩
  have g2 : decide (term < 0) = false := decide_eq_false q2
  by_cases q3 : (1024 : Int) < (N : Int)
  · have g3 : decide ((1024 : Int) < (N : Int)) = true := decide_eq_true q3
    go_enter Try.func5, Try.ntmps5
    go_wp2_with (go_at_call 9; (with_reducible refine (awake_any _).mono ?_); rintro e w1 ⟨rfl, hb⟩; have B1 := Lib.hid hb; clear hb)
    go_ret
    exact ⟨rfl, B1.out⟩
  have g3 : decide ((1024 : Int) < (N : Int)) = false := decide_eq_false q3
  obtain ⟨T, hT⟩ : ∃ T : Lg, (⟨index, term, L⟩ : Lg) = T := ⟨_, rfl⟩
  have HT0 := Lib.hid hT
  have hti : T.i = index := by rw [← hT]
  have htL : T.L.length = N := by rw [← hT]; exact hA.ln
  have htl : T.last = index + (N : Int) := by unfold Lg.last; rw [hti, htL]
  have HI : Hid (Inv T) := Lib.hid (by
    have := hA.ln
    rw [← hT]
    exact ⟨by show 0 ≤ index; omega, by show index + (L.length : Int) ≤ _; omega, ⟨by show _ ≤ term; omega, by show term ≤ _; omega⟩, hA.all, by show L.length ≤ _; omega⟩)
  have HR : Hid (Rd DE w (fun k => k < w.heap.size) A L) := Lib.hid hA.rd
  have HRB : Hid (Rd DC w (fun k => k < w.heap.size) A2 acts) := Lib.hid hB.rd
  have HBN := Lib.hid hB.ln
  have HBO : Hid (∀ y ∈ acts, AcOk w y) := Lib.hid hB.all
  have HN := Lib.hid hA.ln
  have HNC := Lib.hid hA.le
  have HNN := Lib.hid hA.nn
  have HN6 : Hid (N ≤ 1000000) := Lib.hid (by omega)
  have HCD : Hid (0 ≤ index ∧ 0 ≤ term ∧ index ≤ 4611686018427387904 - (L.length : Int)) := Lib.hid (by have := hA.ln; omega)
  have Icu : Hid (I64 cu) := Lib.hid ⟨u1, u2⟩
  have ib0 : 0 ≤ index := by omega
  have ib1 : index ≤ 1099511627776 := by omega
  have Nb : (N : Int) ≤ 1024 := by omega
  have HLS : Hid (∀ (b : Nat) X S, Log X b T S → Calls Try.prog 29 #[.pointer (some ⟨b, 0, none⟩)] X (RetBelow (.tuple #[.int .i64 (index + (N : Int)), .int .i64 T.lterm]) X)) := Lib.hid fun b X S h => by have := last_any h HI.out; rw [htl] at this; exact this
  have hkn := term_known (T := T) (k := cu)
  rw [hti, htl] at hkn
  clear hA hB q0 q1 q2 q3 hT
  cases ht : T.term cu with
  | none =>
    have hcu : T.cut cu = (T, 2) := by unfold Lg.cut; rw [ht]
    have HCU := Lib.hid hcu
    have hno : ¬ (index ≤ cu ∧ cu ≤ index + (N : Int)) := fun q => by obtain ⟨t, e⟩ := hkn.2 q; rw [ht] at e; cases e
    clear ht hcu hkn hti htL htl
    by_cases k1 : cu < index
    · have g5 : decide (cu < index) = true := decide_eq_true k1
      clear hno
      go_enter Try.func5, Try.ntmps5
      go_wp2_with (first
        | (go_at_call 9; (with_reducible refine (awake_any _).mono ?_); rintro e w1 ⟨rfl, hb⟩; have B1 := Lib.hid hb; clear hb)
        | (go_at_call 10; (with_reducible refine (new_yes (HRb.out) HN.out HNC.out HNN.out HN6.out HCD.out).mono ?_); rintro e w3 ⟨b2, rfl, hl, hb⟩; rw [HT0.out] at hl; have K3 := Lib.hid (L2.begin (w0 := w) (Hd := fun k => k < w.heap.size) B1.out HB2.out HL2.out hb hl HI.out HI.out (fun k q => Nat.lt_of_lt_of_le q B1.out.size)); clear hl hb)
        | (go_at_call 10; (with_reducible refine (new_yes (HR.out.below B1.out) HN.out HNC.out HNN.out HN6.out HCD.out).mono ?_); rintro e w2 ⟨b, rfl, hl, hb⟩; rw [HT0.out] at hl; have HL2 := Lib.hid hl; have HB2 := Lib.hid hb; have HRb := Lib.hid ((HR.out.below B1.out).below hb); clear hl hb)
        | (go_at_call 15; (with_reducible refine (cut_lv K3.out.a Icu.out).mono ?_); rintro e w4 ⟨rfl, S4, hk, hf⟩; rw [HCU.out] at hk ⊢; have K4 := Lib.hid (K3.out.toA hk hf); clear hk hf)
        | (go_at_call 29; (with_reducible refine (HLS.out _ _ _ K4.out.b.log).mono ?_); rintro e w5 ⟨rfl, hb⟩; have K5 := Lib.hid (K4.out.step hb); clear hb))
      go_ret
      exact ⟨rfl, K5.out.a.bel⟩
    · have g5 : decide (cu < index) = false := decide_eq_false k1
      have g6 : decide (index + (N : Int) < cu) = true := decide_eq_true (by omega)
      clear hno
      go_enter Try.func5, Try.ntmps5
      go_wp2_with (first
        | (go_at_call 9; (with_reducible refine (awake_any _).mono ?_); rintro e w1 ⟨rfl, hb⟩; have B1 := Lib.hid hb; clear hb)
        | (go_at_call 10; (with_reducible refine (new_yes (HRb.out) HN.out HNC.out HNN.out HN6.out HCD.out).mono ?_); rintro e w3 ⟨b2, rfl, hl, hb⟩; rw [HT0.out] at hl; have K3 := Lib.hid (L2.begin (w0 := w) (Hd := fun k => k < w.heap.size) B1.out HB2.out HL2.out hb hl HI.out HI.out (fun k q => Nat.lt_of_lt_of_le q B1.out.size)); clear hl hb)
        | (go_at_call 10; (with_reducible refine (new_yes (HR.out.below B1.out) HN.out HNC.out HNN.out HN6.out HCD.out).mono ?_); rintro e w2 ⟨b, rfl, hl, hb⟩; rw [HT0.out] at hl; have HL2 := Lib.hid hl; have HB2 := Lib.hid hb; have HRb := Lib.hid ((HR.out.below B1.out).below hb); clear hl hb)
        | (go_at_call 15; (with_reducible refine (cut_lv K3.out.a Icu.out).mono ?_); rintro e w4 ⟨rfl, S4, hk, hf⟩; rw [HCU.out] at hk ⊢; have K4 := Lib.hid (K3.out.toA hk hf); clear hk hf)
        | (go_at_call 29; (with_reducible refine (HLS.out _ _ _ K4.out.b.log).mono ?_); rintro e w5 ⟨rfl, hb⟩; have K5 := Lib.hid (K4.out.step hb); clear hb))
      go_ret
      exact ⟨rfl, K5.out.a.bel⟩
  | some t0 =>
    have hcu : T.cut cu = (T.move cu t0, 0) := by unfold Lg.cut; rw [ht]
    have HCU := Lib.hid hcu
    obtain ⟨hc1, hc2⟩ := hkn.1 ⟨t0, ht⟩
    have HREL := Lib.hid (rel_cut ht)
    have hG1 : (T.move cu t0).L.length ≤ 1024 := by unfold Lg.move; rw [List.length_drop, htL]; omega
    have hH1 : T.L.length ≤ 1024 := by omega
    have HG1 := Lib.hid hG1
    have HH1 := Lib.hid hH1
    have cu0 : 0 ≤ cu := by omega
    have cuM : cu ≤ 1099511628800 := by omega
    have Icu1 : Hid (I64 (cu + 1)) := Lib.hid ⟨by omega, by omega⟩
    have I2 : Hid (I64 1048576) := Lib.hid ⟨by omega, by omega⟩
    clear ht hcu hkn hti htL htl hG1 hH1 hc1 hc2
    go_enter Try.func5, Try.ntmps5
    go_wp2_with (first
      | (go_at_call 9; (with_reducible refine (awake_any _).mono ?_); rintro e w1 ⟨rfl, hb⟩; have B1 := Lib.hid hb; clear hb)
      | (go_at_call 10; (with_reducible refine (new_yes (HRb.out) HN.out HNC.out HNN.out HN6.out HCD.out).mono ?_); rintro e w3 ⟨b2, rfl, hl, hb⟩; rw [HT0.out] at hl; have K3 := Lib.hid (L2.begin (w0 := w) (Hd := fun k => k < w.heap.size) B1.out HB2.out HL2.out hb hl HI.out HI.out (fun k q => Nat.lt_of_lt_of_le q B1.out.size)); clear hl hb)
      | (go_at_call 10; (with_reducible refine (new_yes (HR.out.below B1.out) HN.out HNC.out HNN.out HN6.out HCD.out).mono ?_); rintro e w2 ⟨b, rfl, hl, hb⟩; rw [HT0.out] at hl; have HL2 := Lib.hid hl; have HB2 := Lib.hid hb; have HRb := Lib.hid ((HR.out.below B1.out).below hb); clear hl hb)
      | (go_at_call 15; (with_reducible refine (cut_lv K3.out.a Icu.out).mono ?_); rintro e w4 ⟨rfl, S4, hk, hf⟩; rw [HCU.out] at hk ⊢; have K4 := Lib.hid (K3.out.toA hk hf); clear hk hf))
    obtain ⟨G0, hG0⟩ : ∃ G, T.move cu t0 = G := ⟨_, rfl⟩
    rw [hG0] at K4 HREL HG1
    clear HCU hG0
    go_loopw [16] (fun iV wr => ∃ (j : Nat) (G H : Lg) (Sg Sh : Nat → Prop), iV = .int .i64 (j : Int) ∧ j ≤ M ∧ j ≤ 100 ∧ L2 w wr b b2 G H Sg Sh (fun k => k < w.heap.size) ∧ Rel G H cu ∧ G.L.length ≤ 1024 + 1024 * j ∧ H.L.length ≤ 1024 + 1024 * j) (fun iV _ => M - (intOf iV).toNat)
    case atStart => exact ⟨0, _, _, _, _, rfl, Nat.zero_le _, Nat.zero_le _, K4.out, HREL.out, HG1.out, HH1.out⟩
    case round =>
      obtain ⟨j, G, H, Sg, Sh, rfl, hj1, hj2, hk, hrl, hgl, hhl⟩ := hrel
      have K := Lib.hid hk
      have RL := Lib.hid hrl
      have GL := Lib.hid hgl
      have HL := Lib.hid hhl
      have jI : (j : Int) ≤ 100 := by omega
      clear hk hrl
      by_cases hlt : j < M
      · have y1 : (j : Int) < (M : Int) := by omega
        by_cases hlt2 : j < 100
        · have y2 : (j : Int) < 100 := by omega
          obtain ⟨x, hx⟩ : ∃ x, acts[j]? = some x := ⟨_, List.getElem?_eq_getElem (by have := HBN.out; omega)⟩
          have hxo := HBO.out x (List.mem_of_getElem? hx)
          obtain ⟨qa, oa, hqa, _, hql, hqc⟩ := (HRB.out.below K.out.a.bel).at_ hx
          subst hqa
          obtain ⟨kk, hkk⟩ : ∃ k, x.k = k := ⟨_, rfl⟩
          have e0 : wr.cell? ⟨qa, oa + j * 4, none⟩ = some (.int .i64 kk) := by rw [← hkk]; exact hqc 0 _ rfl
          have e1 : wr.cell? ⟨qa, oa + j * 4 + 1, none⟩ = some (.int .i64 x.a) := hqc 1 _ rfl
          have e2 : wr.cell? ⟨qa, oa + j * 4 + 2, none⟩ = some (.int .i64 x.b) := hqc 2 _ rfl
          have e3 : wr.cell? ⟨qa, oa + j * 4 + 3, none⟩ = some (.slice x.A x.n x.c) := hqc 3 _ rfl
          have HBX : Hid (Below wr.heap.size wr (wr.alloc (.cells #[.int .i64 kk, .int .i64 x.a, .int .i64 x.b, .slice x.A x.n x.c] 34))) := Lib.hid ((Below.refl _ wr).alloc (Nat.le_refl _) _)
          have HBR : Hid ((wr.alloc (.cells #[.int .i64 kk, .int .i64 x.a, .int .i64 x.b, .slice x.A x.n x.c] 34)).heap[wr.heap.size]? = some (.cells #[.int .i64 kk, .int .i64 x.a, .int .i64 x.b, .slice x.A x.n x.c] 34 (0, 0))) := Lib.hid (heap_alloc_new wr _)
          have KX := Lib.hid (K.out.hold HBX.out)
          have HXR : Hid (Rd DE (wr.alloc (.cells #[.int .i64 kk, .int .i64 x.a, .int .i64 x.b, .slice x.A x.n x.c] 34)) (fun k => k < w.heap.size ∨ (wr.heap.size ≤ k ∧ k < (wr.alloc (.cells #[.int .i64 kk, .int .i64 x.a, .int .i64 x.b, .slice x.A x.n x.c] 34)).heap.size)) x.A x.L) := Lib.hid ((hxo.l.rd.below KX.out.a.bel).mono fun k _ q => .inl q)
          have HX1 := Lib.hid hxo.l.ln
          have HX2 := Lib.hid hxo.l.le
          have HX3 := Lib.hid hxo.l.cm
          have HX4 : Hid (∀ y ∈ x.L, I64 y.t) := Lib.hid hxo.l.all
          have HXa := Lib.hid hxo.a
          have stay : Hid (L2 w (wr.alloc (.cells #[.int .i64 kk, .int .i64 x.a, .int .i64 x.b, .slice x.A x.n x.c] 34)) b b2 G H Sg Sh (fun k => k < w.heap.size)) := Lib.hid (KX.out.less fun k q => .inl q)
          have hHd : (fun k => k < w.heap.size ∨ (wr.heap.size ≤ k ∧ k < (wr.alloc (.cells #[.int .i64 kk, .int .i64 x.a, .int .i64 x.b, .slice x.A x.n x.c] 34)).heap.size)) wr.heap.size := .inr ⟨Nat.le_refl _, by simp⟩
          have HHd := Lib.hid hHd
          generalize hHD : (fun k => k < w.heap.size ∨ (wr.heap.size ≤ k ∧ k < (wr.alloc (.cells #[.int .i64 kk, .int .i64 x.a, .int .i64 x.b, .slice x.A x.n x.c] 34)).heap.size)) = HD at *
          have HDL : Hid (∀ k, k < w.heap.size → HD k) := Lib.hid fun k q => by rw [← hHD]; exact .inl q
          clear hHD hHd hqc hxo hx hkk
          by_cases z1 : kk = 0
          · subst z1
            by_cases z2 : x.a < cu
            · have y4 : decide (x.a < cu) = true := decide_eq_true z2
              go_wp2_with fail
              go_roundw
              case rel => exact ⟨j + 1, G, H, Sg, Sh, rfl, by omega, by omega, stay.out, RL.out, by have := GL.out; omega, by have := HL.out; omega⟩
              case measure => simp [intOf]; omega
            · have y4 : decide (x.a < cu) = false := decide_eq_false z2
              by_cases z3 : (1024 : Int) < (x.n : Int)
              · have y5 : decide ((1024 : Int) < (x.n : Int)) = true := decide_eq_true z3
                go_wp2_with fail
                go_roundw
                case rel => exact ⟨j + 1, G, H, Sg, Sh, rfl, by omega, by omega, stay.out, RL.out, by have := GL.out; omega, by have := HL.out; omega⟩
                case measure => simp [intOf]; omega
              · have y5 : decide ((1024 : Int) < (x.n : Int)) = false := decide_eq_false z3
                have hGp : G.L.length + x.n ≤ 400000 := by omega
                have hHp : H.L.length + x.n ≤ 400000 := by omega
                have HGp := Lib.hid hGp
                have HHp := Lib.hid hHp
                obtain ⟨hr1, hr2⟩ := rel_put RL.out (p := x.a) (by omega) x.b x.L
                have hl1 := put_len G x.a x.b x.L
                have hl2 := put_len H x.a x.b x.L
                have hxn : x.L.length ≤ 1024 := by have := HX1.out; omega
                obtain ⟨G', hG'⟩ : ∃ G', (G.put x.a x.b x.L).1 = G' := ⟨_, rfl⟩
                obtain ⟨H', hH'⟩ : ∃ H', (H.put x.a x.b x.L).1 = H' := ⟨_, rfl⟩
                obtain ⟨r1, hr3⟩ : ∃ r, (H.put x.a x.b x.L).2.1 = r := ⟨_, rfl⟩
                obtain ⟨r2, hr4⟩ : ∃ r, (H.put x.a x.b x.L).2.2 = r := ⟨_, rfl⟩
                rw [hG'] at hl1 hr2
                rw [hH'] at hl2 hr2
                have PG1 := Lib.hid hG'
                have PH1 := Lib.hid hH'
                have PG2 : Hid ((G.put x.a x.b x.L).2.1 = r1) := Lib.hid (by rw [hr1]; exact hr3)
                have PG3 : Hid ((G.put x.a x.b x.L).2.2 = r2) := Lib.hid (by rw [hr1]; exact hr4)
                have PH2 := Lib.hid hr3
                have PH3 := Lib.hid hr4
                have RL' := Lib.hid hr2
                have GL' : Hid (G'.L.length ≤ 1024 + 1024 * (j + 1)) := Lib.hid (by omega)
                have HL' : Hid (H'.L.length ≤ 1024 + 1024 * (j + 1)) := Lib.hid (by omega)
                have hte := rel_term hr2 (k := x.a) (by omega)
                have HTE := Lib.hid hte
                clear hGp hHp hr1 hr2 hr3 hr4 hl1 hl2 hxn hG' hH' hte
                obtain ⟨TV, hTV⟩ : ∃ v, (H'.term x.a).getD 0 = v := ⟨_, rfl⟩
                obtain ⟨KN, hKN⟩ : ∃ v, (H'.term x.a).isSome = v := ⟨_, rfl⟩
                have PTV := Lib.hid hTV
                have PKN := Lib.hid hKN
                clear hTV hKN
                obtain ⟨m0, m1, m2, m3⟩ := acells HBR.out
                go_wp2_with (first
                  | (go_at_call 13; (with_reducible refine (put_lv K5.out.swap.a HXR5.out HX1.out HX2.out HX3.out HHp.out HXa.out HX4.out).mono ?_); rintro e w6 ⟨rfl, S6, hk, hf⟩; rw [PH1.out] at hk; rw [PH2.out, PH3.out]; have K6 := Lib.hid (K5.out.swap.toA hk hf).swap; obtain ⟨m0, m1, m2, m3⟩ := acells ((K5.out.swap.blockA hf HHd.out).trans HBR5.out); clear hk hf)
                  | (go_at_call 13; (with_reducible refine (put_lv KX.out.a (HXR.out.mono fun k _ q => .inl q) HX1.out HX2.out HX3.out HGp.out HXa.out HX4.out).mono ?_); rintro e w5 ⟨rfl, S5, hk, hf⟩; rw [PG1.out] at hk; rw [PG2.out, PG3.out]; have K5 := Lib.hid (KX.out.toA hk hf); have HXR5 := Lib.hid ((KX.out.rdA hf HXR.out).mono (H' := fun k => HD k ∨ S5 k) fun k _ q => .inl q); have HBR5 := Lib.hid ((KX.out.blockA hf HHd.out).trans HBR.out); obtain ⟨m0, m1, m2, m3⟩ := acells HBR5.out; clear hk hf)
                  | (go_at_call 18; (with_reducible refine (term_any K7.out.b.log K7.out.b.inv HXa.out).mono ?_); rintro e w8 ⟨rfl, hb⟩; have K8 := Lib.hid (K7.out.step hb); clear hb; unfold tmV; rw [PTV.out, PKN.out])
                  | (go_at_call 18; (with_reducible refine (term_any K6.out.a.log K6.out.a.inv HXa.out).mono ?_); rintro e w7 ⟨rfl, hb⟩; rw [HTE.out]; unfold tmV; rw [PTV.out, PKN.out]; have K7 := Lib.hid (K6.out.step hb); have b0 := cellB m1 hb (lt_of_cell m1); clear hb))
                go_roundw
                case rel => exact ⟨j + 1, G', H', _, _, rfl, by omega, by omega, K8.out.less HDL.out, RL'.out, GL'.out, HL'.out⟩
                case measure => simp [intOf]; omega
          · have y3 : (kk == 0) = false := by simpa using z1
            go_wp2_with fail
            go_roundw
            case rel => exact ⟨j + 1, G, H, Sg, Sh, rfl, by omega, by omega, stay.out, RL.out, by have := GL.out; omega, by have := HL.out; omega⟩
            case measure => simp [intOf]; omega
        · have y2 : decide ((j : Int) < 100) = false := by simp; omega
          have hfr := rel_from RL.out (n := 1048576) (by have := HL.out; omega)
          have hls := rel_last RL.out
          have hlt3 := rel_lterm RL.out
          obtain ⟨Z, hZ⟩ : ∃ l, G.L = l := ⟨_, rfl⟩
          rw [hZ] at hfr
          obtain ⟨nz, hnz⟩ : ∃ k, Z.length = k := ⟨_, rfl⟩
          have HNZ := Lib.hid hnz
          have HZ6 : Hid (nz ≤ 1000000) := Lib.hid (by have := GL.out; rw [← hnz, ← hZ]; omega)
          have HF1 := Lib.hid hfr.1
          have HF2 := Lib.hid hfr.2
          have HLS1 := Lib.hid hls
          have HLT1 := Lib.hid hlt3
          obtain ⟨la, hla⟩ : ∃ k, H.last = k := ⟨_, rfl⟩
          obtain ⟨lt, hlt4⟩ : ∃ k, H.lterm = k := ⟨_, rfl⟩
          have HLA := Lib.hid hla
          have HLT := Lib.hid hlt4
          clear hfr hls hlt3 hZ hnz hla hlt4
          go_wp2_with (first
            | (go_at_call 29; (with_reducible refine (last_any K5.out.b.log K5.out.b.inv).mono ?_); rintro e w6 ⟨rfl, hb⟩; rw [HLA.out, HLT.out]; have K6 := Lib.hid (K5.out.step hb); clear hb)
            | (go_at_call 29; (with_reducible refine (last_any K.out.a.log K.out.a.inv).mono ?_); rintro e w5 ⟨rfl, hb⟩; rw [HLS1.out, HLT1.out, HLA.out, HLT.out]; have K5 := Lib.hid (K.out.step hb); clear hb)
            | (go_at_call 24; (with_reducible refine (from_lx K7.out.b Icu1.out I2.out HF2.out HNZ.out).mono ?_); rintro e w8 ⟨A8, c8, rfl, a8, x8, n8, r8, k8, b8⟩; have K8 := Lib.hid (K7.out.step b8); have R8 := Lib.hid r8; have R7b := Lib.hid (R7.out.below b8); clear r8 k8 b8)
            | (go_at_call 24; (with_reducible refine (from_lx K6.out.a Icu1.out I2.out HF1.out HNZ.out).mono ?_); rintro e w7 ⟨A7, c7, rfl, a7, x7, n7, r7, k7, b7⟩; have K7 := Lib.hid (K6.out.step b7); have R7 := Lib.hid r7; clear r7 k7 b7)
            | (go_at_call 23; (with_reducible refine (entries_same R7b.out R8.out HNZ.out HNZ.out HZ6.out HZ6.out).mono ?_); rintro e w9 ⟨rfl, hb⟩; have K9 := Lib.hid (K8.out.step hb); clear hb))
          go_ret
          exact ⟨rfl, K9.out.a.bel⟩
      · have y1 : decide ((j : Int) < (M : Int)) = false := by simp; omega
        have hfr := rel_from RL.out (n := 1048576) (by have := HL.out; omega)
        have hls := rel_last RL.out
        have hlt3 := rel_lterm RL.out
        obtain ⟨Z, hZ⟩ : ∃ l, G.L = l := ⟨_, rfl⟩
        rw [hZ] at hfr
        obtain ⟨nz, hnz⟩ : ∃ k, Z.length = k := ⟨_, rfl⟩
        have HNZ := Lib.hid hnz
        have HZ6 : Hid (nz ≤ 1000000) := Lib.hid (by have := GL.out; rw [← hnz, ← hZ]; omega)
        have HF1 := Lib.hid hfr.1
        have HF2 := Lib.hid hfr.2
        have HLS1 := Lib.hid hls
        have HLT1 := Lib.hid hlt3
        obtain ⟨la, hla⟩ : ∃ k, H.last = k := ⟨_, rfl⟩
        obtain ⟨lt, hlt4⟩ : ∃ k, H.lterm = k := ⟨_, rfl⟩
        have HLA := Lib.hid hla
        have HLT := Lib.hid hlt4
        clear hfr hls hlt3 hZ hnz hla hlt4
        go_wp2_with (first
          | (go_at_call 29; (with_reducible refine (last_any K5.out.b.log K5.out.b.inv).mono ?_); rintro e w6 ⟨rfl, hb⟩; rw [HLA.out, HLT.out]; have K6 := Lib.hid (K5.out.step hb); clear hb)
          | (go_at_call 29; (with_reducible refine (last_any K.out.a.log K.out.a.inv).mono ?_); rintro e w5 ⟨rfl, hb⟩; rw [HLS1.out, HLT1.out, HLA.out, HLT.out]; have K5 := Lib.hid (K.out.step hb); clear hb)
          | (go_at_call 24; (with_reducible refine (from_lx K7.out.b Icu1.out I2.out HF2.out HNZ.out).mono ?_); rintro e w8 ⟨A8, c8, rfl, a8, x8, n8, r8, k8, b8⟩; have K8 := Lib.hid (K7.out.step b8); have R8 := Lib.hid r8; have R7b := Lib.hid (R7.out.below b8); clear r8 k8 b8)
          | (go_at_call 24; (with_reducible refine (from_lx K6.out.a Icu1.out I2.out HF1.out HNZ.out).mono ?_); rintro e w7 ⟨A7, c7, rfl, a7, x7, n7, r7, k7, b7⟩; have K7 := Lib.hid (K6.out.step b7); have R7 := Lib.hid r7; clear r7 k7 b7)
          | (go_at_call 23; (with_reducible refine (entries_same R7b.out R8.out HNZ.out HNZ.out HZ6.out HZ6.out).mono ?_); rintro e w9 ⟨rfl, hb⟩; have K9 := Lib.hid (K8.out.step hb); clear hb))
        go_ret
        exact ⟨rfl, K9.out.a.bel⟩
end Go.Proofs.Ytlimjfnolidbmaa
