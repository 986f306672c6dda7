import Derived.Test.YtlimjfnolidbmaaEc
namespace Go.Proofs.Ytlimjfnolidbmaa
set_option maxRecDepth 20000
open Go.RowKit RL
set_option linter.unusedVariables false
/-! ### the law RlogNewer -/
def nw (x y : Int × Int) : Bool := decide (y.2 < x.2) || (decide (x.2 = y.2) && decide (y.1 ≤ x.1))
theorem nw_refl (x : Int × Int) : nw x x = true := by simp [nw]
theorem nw_total (x y : Int × Int) : nw x y = false → nw y x = true := by
  intro h
  simp only [nw, Bool.or_eq_false_iff, Bool.and_eq_false_iff, decide_eq_false_iff_not] at h
  simp only [nw, Bool.or_eq_true, Bool.and_eq_true, decide_eq_true_eq]
  omega
theorem nw_anti (x y : Int × Int) : nw x y = true → nw y x = true → x = y := by
  intro h k
  simp only [nw, Bool.or_eq_true, Bool.and_eq_true, decide_eq_true_eq] at h k
  apply Prod.ext <;> omega
theorem nw_trans (x y z : Int × Int) : nw x y = true → nw y z = true → nw x z = true := by
  intro h k
  simp only [nw, Bool.or_eq_true, Bool.and_eq_true, decide_eq_true_eq] at h k ⊢
  omega
def arV (x : Int × Int) : Value := .agg #[.int .i64 x.1, .int .i64 x.2]
def DA : CT (Int × Int) := ⟨fun x => [.int .i64 x.1, .int .i64 x.2], 2, 66, 68, .agg #[.int .i64 0, .int .i64 0], 16, fun _ => rfl, fun x u h => by simp only [List.mem_cons, List.not_mem_nil, or_false] at h; rcases h with rfl | rfl <;> rfl, by omega, by omega, by rfl, by omega, by kernel_rfl, Try.underlying68⟩
def InA (x : Int × Int) : Prop := 0 ≤ x.1 ∧ 0 ≤ x.2 ∧ x.1 ≤ 1099511627776 ∧ x.2 ≤ 1099511627776
theorem eq66 (d : Nat) (a b x y : Int) (w : World) : (Op.equalIn (d + 2) 66 (.agg #[.int .i64 a, .int .i64 b]) (.agg #[.int .i64 x, .int .i64 y])).run Try.prog w = .ok (a == x && b == y) w := by
  have u3 := Try.underlying2
  have a3 := Try.isAgg2
  have z3 := Try.sizeOf2
  rw [Op.equalIn]
  simp only [Sem.run_bind, run_underlying Try.underlying66, Result.andThen_ok]
  simp only [Std.Legacy.Range.forIn_eq_forIn_range', Std.Legacy.Range.size, Nat.sub_zero, Nat.add_sub_cancel, Nat.div_one, List.range'_succ, List.range'_zero, List.forIn_cons, List.forIn_nil]
  go_simp
  by_cases h1 : a = x <;> by_cases h2 : b = y <;> simp [h1, h2]
theorem ne66 (x y : Int × Int) (w : World) : (binOp .neq 66 (arV x) (arV y)).run Try.prog w = .ok (.bool (!decide (x = y))) w := by
  obtain ⟨a, b⟩ := x
  obtain ⟨c, d⟩ := y
  unfold arV
  simp only [binOp]
  simp [Op.equal, Op.maxDepth, eq66 9998]
  by_cases h1 : a = c <;> by_cases h2 : b = d <;> simp [h1, h2]
theorem newer30 (x y : Int × Int) (hy : InA y) (w : World) : Calls Try.prog 30 #[.agg #[.int .i64 x.1, .int .i64 x.2], .agg #[.int .i64 y.1, .int .i64 y.2]] w (RetBelow (.bool (nw x y)) w) := by
  obtain ⟨y1, y2, y3, y4⟩ := hy
  obtain ⟨x0, x1⟩ := x
  obtain ⟨y0', y1'⟩ := y
  simp only at *
  have HB0 : Hid (Below w.heap.size w ((w.alloc (.cells #[.int .i64 x0, .int .i64 x1] 66)).alloc (.cells #[.int .i64 y0', .int .i64 y1'] 66))) := Lib.hid (((Below.refl _ w).alloc (Nat.le_refl _) _).alloc (by simp) _)
  have HR0 : Hid (((w.alloc (.cells #[.int .i64 x0, .int .i64 x1] 66)).alloc (.cells #[.int .i64 y0', .int .i64 y1'] 66)).heap[w.heap.size]? = some (.cells #[.int .i64 x0, .int .i64 x1] 66 (0, 0))) := Lib.hid ((heap_alloc_old _ _ (by simp)).trans (heap_alloc_new w _))
  have HS : Hid (w.heap.size < ((w.alloc (.cells #[.int .i64 x0, .int .i64 x1] 66)).alloc (.cells #[.int .i64 y0', .int .i64 y1'] 66)).heap.size) := Lib.hid (by simp; omega)
  have hc : (0 : Int) ≤ y0' ∧ (0 : Int) ≤ y1' ∧ y0' ≤ 4611686018427387904 - (([] : List En).length : Int) := ⟨by omega, by omega, by simp; omega⟩
  have HC := Lib.hid hc
  have HI : Hid (Inv ⟨y0', y1', []⟩) := Lib.hid ⟨y1, by simp; omega, ⟨by show -9223372036854775808 ≤ y1'; omega, by show y1' ≤ 9223372036854775807; omega⟩, fun x hx => by simp at hx, by simp⟩
  have e0 : Hid (([] : List En).length = 0) := Lib.hid rfl
  have z6 : Hid (0 ≤ 1000000) := Lib.hid (by omega)
  have HNW : Hid ((⟨y0', y1', []⟩ : Lg).newer x0 x1 = nw (x0, x1) (y0', y1')) := Lib.hid (by
    have e1 : (⟨y0', y1', []⟩ : Lg).last = y0' := by unfold Lg.last; simp
    have e2 : (⟨y0', y1', []⟩ : Lg).lterm = y1' := by
      have := last_known ⟨y0', y1', []⟩
      rw [e1] at this
      have h2 := term_base ⟨y0', y1', []⟩
      rw [show (⟨y0', y1', []⟩ : Lg).i = y0' from rfl, this] at h2
      injection h2
    unfold Lg.newer nw
    rw [e1, e2])
  clear hc
  go_enter Try.func30, Try.ntmps30
  go_wp2_with (first
    | (go_at_call 10; (with_reducible refine (new_yes (H := fun _ => False) (Rd.nil DE _ _ none) e0.out (Nat.le_refl _) (fun _ => rfl) z6.out HC.out).mono ?_); rintro e w1 ⟨b, rfl, hl, hb⟩; have HL := Lib.hid hl; have HB1 := Lib.hid hb; have d0 := cell_of_row w1 w.heap.size 0 _ _ _ ((hb.block w.heap.size HS.out).trans HR0.out); have d1 := cell_of_row w1 w.heap.size 1 _ _ _ ((hb.block w.heap.size HS.out).trans HR0.out); clear hl hb)
    | (go_at_call 21; (with_reducible refine (newer_any HL.out HI.out x0 x1).mono ?_); rintro e w2 ⟨rfl, hb⟩; rw [HNW.out]; have HB2 := Lib.hid hb; clear hb))
  go_ret
  exact ⟨rfl, HB0.out.trans ((HB1.out.trans (HB2.out.mono HB1.out.size)).mono HB0.out.size)⟩
set_option maxHeartbeats 4000000 in
theorem law_newer (a b c : Int × Int) (w : World) : Calls Try.prog 7 #[.agg #[.int .i64 a.1, .int .i64 a.2], .agg #[.int .i64 b.1, .int .i64 b.2], .agg #[.int .i64 c.1, .int .i64 c.2]] w (RetBelow (.bool true) w) := by
  have HW3 : Hid (Below w.heap.size w (((w.alloc (.cells #[.int .i64 a.1, .int .i64 a.2] 66)).alloc (.cells #[.int .i64 b.1, .int .i64 b.2] 66)).alloc (.cells #[.int .i64 c.1, .int .i64 c.2] 66))) := Lib.hid ((((Below.refl _ w).alloc (Nat.le_refl _) _).alloc (by simp) _).alloc (by simp; omega) _)
  have HX : Hid (∀ X, Below (((w.alloc (.cells #[.int .i64 a.1, .int .i64 a.2] 66)).alloc (.cells #[.int .i64 b.1, .int .i64 b.2] 66)).alloc (.cells #[.int .i64 c.1, .int .i64 c.2] 66)).heap.size (((w.alloc (.cells #[.int .i64 a.1, .int .i64 a.2] 66)).alloc (.cells #[.int .i64 b.1, .int .i64 b.2] 66)).alloc (.cells #[.int .i64 c.1, .int .i64 c.2] 66)) X → X.cell? ⟨w.heap.size, 0, none⟩ = some (.int .i64 a.1) ∧ X.cell? ⟨w.heap.size, 1, none⟩ = some (.int .i64 a.2) ∧ X.cell? ⟨w.heap.size + 1, 0, none⟩ = some (.int .i64 b.1) ∧ X.cell? ⟨w.heap.size + 1, 1, none⟩ = some (.int .i64 b.2) ∧ X.cell? ⟨w.heap.size + 1 + 1, 0, none⟩ = some (.int .i64 c.1) ∧ X.cell? ⟨w.heap.size + 1 + 1, 1, none⟩ = some (.int .i64 c.2)) := Lib.hid fun X hX => by
    have h0 : X.heap[w.heap.size]? = some (.cells #[.int .i64 a.1, .int .i64 a.2] 66 (0, 0)) := (hX.block _ (by simp; omega)).trans ((heap_alloc_old _ _ (by simp; omega)).trans ((heap_alloc_old _ _ (by simp)).trans (heap_alloc_new w _)))
    have h1 : X.heap[w.heap.size + 1]? = some (.cells #[.int .i64 b.1, .int .i64 b.2] 66 (0, 0)) := by
      refine (hX.block _ (by simp)).trans ((heap_alloc_old _ _ (by simp)).trans ?_)
      have := heap_alloc_new (w.alloc (.cells #[.int .i64 a.1, .int .i64 a.2] 66)) (.cells #[.int .i64 b.1, .int .i64 b.2] 66)
      simpa using this
    have h2 : X.heap[w.heap.size + 1 + 1]? = some (.cells #[.int .i64 c.1, .int .i64 c.2] 66 (0, 0)) := by
      refine (hX.block _ (by simp)).trans ?_
      have := heap_alloc_new ((w.alloc (.cells #[.int .i64 a.1, .int .i64 a.2] 66)).alloc (.cells #[.int .i64 b.1, .int .i64 b.2] 66)) (.cells #[.int .i64 c.1, .int .i64 c.2] 66)
      simpa using this
    exact ⟨cell_of_row X _ 0 _ _ _ h0, cell_of_row X _ 1 _ _ _ h0, cell_of_row X _ 0 _ _ _ h1, cell_of_row X _ 1 _ _ _ h1, cell_of_row X _ 0 _ _ _ h2, cell_of_row X _ 1 _ _ _ h2⟩
  go_enter Try.func7, Try.ntmps7
  go_wp2_with (go_at_call 9; (with_reducible refine (awake_any _).mono ?_); rintro e w1 ⟨rfl, hb⟩; have HB1 := Lib.hid hb; obtain ⟨m0, m1, m2, m3, m4, m5⟩ := HX.out _ hb; clear hb)
  have HRD : Hid (Rd DA (w1.alloc (.cells #[.int .i64 a.1, .int .i64 a.2, .int .i64 b.1, .int .i64 b.2, .int .i64 c.1, .int .i64 c.2] 66)) (fun k => k = w1.heap.size) (some ⟨w1.heap.size, 0, none⟩) [a, b, c]) := Lib.hid (Rd.lit (heap_alloc_new w1 _) rfl)
  have HW1 : Hid (Below w1.heap.size w1 (w1.alloc (.cells #[.int .i64 a.1, .int .i64 a.2, .int .i64 b.1, .int .i64 b.2, .int .i64 c.1, .int .i64 c.2] 66))) := Lib.hid ((Below.refl _ w1).alloc (Nat.le_refl _) _)
  clear m0 m1 m2 m3 m4 m5
  generalize hWW : w1.alloc (.cells #[.int .i64 a.1, .int .i64 a.2, .int .i64 b.1, .int .i64 b.2, .int .i64 c.1, .int .i64 c.2] 66) = W1 at *
  clear hWW
  go_loopw [17] (fun iV wr => ∃ j : Nat, iV = .int .i64 (j : Int) ∧ j ≤ 3 ∧ Below W1.heap.size W1 wr ∧ ∀ (i : Nat) (x : Int × Int), i < j → [a, b, c][i]? = some x → InA x) (fun iV _ => 3 - (intOf iV).toNat)
  case atStart => exact ⟨0, rfl, Nat.zero_le _, Below.refl _ _, fun i x h => absurd h (Nat.not_lt_zero _)⟩
  case round =>
    obtain ⟨j, rfl, hj, hb, ha⟩ := hrel
    have HB := Lib.hid hb
    have HA := Lib.hid ha
    clear hb ha
    have HBW : Hid (∀ X, Below W1.heap.size W1 X → Below w.heap.size w X) := Lib.hid fun X hX => HW3.out.trans ((HB1.out.trans ((HW1.out.trans (hX.mono HW1.out.size)).mono HB1.out.size)).mono HW3.out.size)
    by_cases hlt : j < 3
    · have i1 : (j : Int) < 3 := by omega
      obtain ⟨x, hx⟩ : ∃ x, [a, b, c][j]? = some x := ⟨_, List.getElem?_eq_getElem hlt⟩
      have HXJ := Lib.hid hx
      obtain ⟨q0, o0, hq1, hq2, hq3, hq4⟩ := (HRD.out.below HB.out).at_ hx
      injection hq1 with hq1
      injection hq1 with hqa hqb
      subst hqa hqb
      have e0 : wr.cell? ⟨w1.heap.size, j * 2, none⟩ = some (.int .i64 x.1) := by have := hq4 0 _ rfl; rw [Nat.zero_add] at this; exact this
      have e1 : wr.cell? ⟨w1.heap.size, j * 2 + 1, none⟩ = some (.int .i64 x.2) := by have := hq4 1 _ rfl; rw [Nat.zero_add] at this; exact this
      have HBN : Hid (Below W1.heap.size W1 (wr.alloc (.cells #[.int .i64 x.1, .int .i64 x.2] 66))) := Lib.hid (HB.out.alloc HB.out.size _)
      clear hq4 hx
      by_cases q1 : x.1 < 0
      · have g1 : decide (x.1 < 0) = true := by simpa using q1
        go_wp2_with fail
        go_ret
        exact ⟨rfl, HBW.out _ HBN.out⟩
      · have g1 : decide (x.1 < 0) = false := by simpa using q1
        by_cases q2 : x.2 < 0
        · have g2 : decide (x.2 < 0) = true := by simpa using q2
          go_wp2_with fail
          go_ret
          exact ⟨rfl, HBW.out _ HBN.out⟩
        · have g2 : decide (x.2 < 0) = false := by simpa using q2
          by_cases q3 : 1099511627776 < x.1
          · have g3 : decide (1099511627776 < x.1) = true := by simpa using q3
            go_wp2_with fail
            go_ret
            exact ⟨rfl, HBW.out _ HBN.out⟩
          · have g3 : decide (1099511627776 < x.1) = false := by simpa using q3
            by_cases q4 : 1099511627776 < x.2
            · have g4 : decide (1099511627776 < x.2) = true := by simpa using q4
              go_wp2_with fail
              go_ret
              exact ⟨rfl, HBW.out _ HBN.out⟩
            · have g4 : decide (1099511627776 < x.2) = false := by simpa using q4
              go_wp2_with fail
              go_roundw
              case rel => exact ⟨j + 1, rfl, by omega, HBN.out, fun i y hi hy => by
                rcases Nat.lt_or_ge i j with q | q
                · exact HA.out i y q hy
                · obtain rfl : i = j := by omega
                  rw [HXJ.out] at hy
                  cases hy
                  exact ⟨by omega, by omega, by omega, by omega⟩⟩
              case measure => simp [intOf]; omega
    · obtain rfl : j = 3 := by omega
      have ia := HA.out 0 a (by omega) rfl
      have ib := HA.out 1 b (by omega) rfl
      have ic := HA.out 2 c (by omega) rfl
      have NAA : Hid (∀ X, Calls Try.prog 30 #[.agg #[.int .i64 a.1, .int .i64 a.2], .agg #[.int .i64 a.1, .int .i64 a.2]] X (RetBelow (.bool true) X)) := Lib.hid fun X => by have := newer30 a a ia X; rw [nw_refl] at this; exact this
      have NAB : Hid (∀ X, Calls Try.prog 30 #[.agg #[.int .i64 a.1, .int .i64 a.2], .agg #[.int .i64 b.1, .int .i64 b.2]] X (RetBelow (.bool (nw a b)) X)) := Lib.hid fun X => newer30 a b ib X
      have NBA : Hid (∀ X, Calls Try.prog 30 #[.agg #[.int .i64 b.1, .int .i64 b.2], .agg #[.int .i64 a.1, .int .i64 a.2]] X (RetBelow (.bool (nw b a)) X)) := Lib.hid fun X => newer30 b a ia X
      have NBC : Hid (∀ X, Calls Try.prog 30 #[.agg #[.int .i64 b.1, .int .i64 b.2], .agg #[.int .i64 c.1, .int .i64 c.2]] X (RetBelow (.bool (nw b c)) X)) := Lib.hid fun X => newer30 b c ic X
      have NAC : Hid (∀ X, Calls Try.prog 30 #[.agg #[.int .i64 a.1, .int .i64 a.2], .agg #[.int .i64 c.1, .int .i64 c.2]] X (RetBelow (.bool (nw a c)) X)) := Lib.hid fun X => newer30 a c ic X
      have HBc := Lib.hid (HB1.out.trans ((HW1.out.trans (HB.out.mono HW1.out.size)).mono HB1.out.size))
      obtain ⟨m0, m1, m2, m3, m4, m5⟩ := HX.out _ HBc.out
      have hne : ∀ W, (binOp .neq 66 (.agg #[.int .i64 a.1, .int .i64 a.2]) (.agg #[.int .i64 b.1, .int .i64 b.2])).run Try.prog W = .ok (.bool (!decide (a = b))) W := fun W => ne66 a b W
      have HTO := Lib.hid (nw_total a b)
      have HAN := Lib.hid (nw_anti a b)
      have HTR := Lib.hid (nw_trans a b c)
      clear ia ib ic HA HBW HRD HB HB1 HW1
      cases hab : nw a b with
      | false =>
        rw [hab] at NAB
        have hba := HTO.out hab
        rw [hba] at NBA
        clear hab hba HTO HAN HTR
        go_wp2_with (go_at_call 30; (first | (with_reducible refine (NAA.out _).mono ?_) | (with_reducible refine (NAB.out _).mono ?_) | (with_reducible refine (NBA.out _).mono ?_) | (with_reducible refine (NBC.out _).mono ?_) | (with_reducible refine (NAC.out _).mono ?_)); rintro e w5 ⟨rfl, hb⟩; have HBc := Lib.hid (HBc.out.trans (hb.mono HBc.out.size)); obtain ⟨m0, m1, m2, m3, m4, m5⟩ := HX.out _ HBc.out; clear hb)
        go_ret
        exact ⟨rfl, HW3.out.trans (HBc.out.mono HW3.out.size)⟩
      | true =>
        rw [hab] at NAB
        have HAB := Lib.hid hab
        clear hab
        cases hba : nw b a with
        | false =>
          rw [hba] at NBA
          clear hba
          cases hbc : nw b c with
          | false =>
            rw [hbc] at NBC
            clear hbc HTO HAN HTR HAB
            go_wp2_with (go_at_call 30; (first | (with_reducible refine (NAA.out _).mono ?_) | (with_reducible refine (NAB.out _).mono ?_) | (with_reducible refine (NBA.out _).mono ?_) | (with_reducible refine (NBC.out _).mono ?_) | (with_reducible refine (NAC.out _).mono ?_)); rintro e w5 ⟨rfl, hb⟩; have HBc := Lib.hid (HBc.out.trans (hb.mono HBc.out.size)); obtain ⟨m0, m1, m2, m3, m4, m5⟩ := HX.out _ HBc.out; clear hb)
            go_ret
            exact ⟨rfl, HW3.out.trans (HBc.out.mono HW3.out.size)⟩
          | true =>
            rw [hbc] at NBC
            have hac := HTR.out HAB.out hbc
            rw [hac] at NAC
            clear hbc hac HTO HAN HTR HAB
            go_wp2_with (go_at_call 30; (first | (with_reducible refine (NAA.out _).mono ?_) | (with_reducible refine (NAB.out _).mono ?_) | (with_reducible refine (NBA.out _).mono ?_) | (with_reducible refine (NBC.out _).mono ?_) | (with_reducible refine (NAC.out _).mono ?_)); rintro e w5 ⟨rfl, hb⟩; have HBc := Lib.hid (HBc.out.trans (hb.mono HBc.out.size)); obtain ⟨m0, m1, m2, m3, m4, m5⟩ := HX.out _ HBc.out; clear hb)
            go_ret
            exact ⟨rfl, HW3.out.trans (HBc.out.mono HW3.out.size)⟩
        | true =>
          have hq := HAN.out HAB.out hba
          have hd : decide (a = b) = true := by simpa using hq
          rw [hd] at hne
          rw [hba] at NBA
          clear hba hq hd
          cases hbc : nw b c with
          | false =>
            rw [hbc] at NBC
            clear hbc HTO HAN HTR HAB
            go_wp2_with (go_at_call 30; (first | (with_reducible refine (NAA.out _).mono ?_) | (with_reducible refine (NAB.out _).mono ?_) | (with_reducible refine (NBA.out _).mono ?_) | (with_reducible refine (NBC.out _).mono ?_) | (with_reducible refine (NAC.out _).mono ?_)); rintro e w5 ⟨rfl, hb⟩; have HBc := Lib.hid (HBc.out.trans (hb.mono HBc.out.size)); obtain ⟨m0, m1, m2, m3, m4, m5⟩ := HX.out _ HBc.out; clear hb)
            go_ret
            exact ⟨rfl, HW3.out.trans (HBc.out.mono HW3.out.size)⟩
          | true =>
            rw [hbc] at NBC
            have hac := HTR.out HAB.out hbc
            rw [hac] at NAC
            clear hbc hac HTO HAN HTR HAB
            go_wp2_with (go_at_call 30; (first | (with_reducible refine (NAA.out _).mono ?_) | (with_reducible refine (NAB.out _).mono ?_) | (with_reducible refine (NBA.out _).mono ?_) | (with_reducible refine (NBC.out _).mono ?_) | (with_reducible refine (NAC.out _).mono ?_)); rintro e w5 ⟨rfl, hb⟩; have HBc := Lib.hid (HBc.out.trans (hb.mono HBc.out.size)); obtain ⟨m0, m1, m2, m3, m4, m5⟩ := HX.out _ HBc.out; clear hb)
            go_ret
            exact ⟨rfl, HW3.out.trans (HBc.out.mono HW3.out.size)⟩
end Go.Proofs.Ytlimjfnolidbmaa
