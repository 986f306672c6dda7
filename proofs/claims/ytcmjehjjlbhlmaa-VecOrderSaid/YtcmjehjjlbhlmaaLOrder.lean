import Derived.Test.YtcmjehjjlbhlmaaOwn
import Derived.Test.YtcmjehjjlbhlmaaLNone
namespace Go.Proofs.Ytcmjehjjlbhlmaa
open Go.RowKit
set_option linter.unusedVariables false
theorem sumI_perm (a : List Int) : sumI a.reverse = sumI a := by
  induction a with
  | nil => rfl
  | cons x r ih =>
    rw [List.reverse_cons, sumI_append, ih]
    show sumI r + (x + 0) = x + sumI r
    omega
theorem s_rev (L : List V3) : sX L.reverse = sX L ∧ sY L.reverse = sY L ∧ sZ L.reverse = sZ L := by
  simp only [sX, sY, sZ, List.map_reverse, sumI_perm, and_self]
theorem s_cut (L : List V3) (n : Nat) : sX (L.take n) + sX (L.drop n) = sX L ∧ sY (L.take n) + sY (L.drop n) = sY L ∧ sZ (L.take n) + sZ (L.drop n) = sZ L := by
  simp only [sX, sY, sZ]
  rw [← sumI_append, ← sumI_append, ← sumI_append, ← List.map_append, ← List.map_append, ← List.map_append, List.take_append_drop]
  simp
/-- the head of the loop that turns a list -/
def BackRel (w : World) (b0 : Nat) (L : List V3) (v i : Value) (wr : World) : Prop := ∃ k : Nat, k ≤ L.length ∧ i = .int .i64 ((k : Int) - 1) ∧ OwnV wr b0 v (L.drop k).reverse ∧ Below w.heap.size w wr ∧ b0 ≤ wr.heap.size
theorem rev_snoc (L : List V3) (k : Nat) (h : k < L.length) : (L.drop (k + 1)).reverse ++ [L[k]] = (L.drop k).reverse := by
  rw [List.drop_eq_getElem_cons h, List.reverse_cons]
set_option maxRecDepth 20000 in
set_option maxHeartbeats 1000000 in
theorem law_order (L : List V3) (A : Option Addr) (n cap : Nat) (at' : Int) (w : World) (hb : VecsAt w w.heap.size A L) (hn : L.length = n) (hok : ∀ v ∈ L, Vok v) (hnc : n ≤ cap) (hc : cap ≤ 9223372036854775807) (hA : A = none → cap = 0) (q0 : -9223372036854775808 ≤ at') (q1 : at' ≤ 9223372036854775807) :
    Calls Try.prog 5 #[.slice A n cap, .int .i64 at'] w (RetBelow (.bool true) w) := by
  have HN := Lib.hid hn
  have HB := Lib.hid hb
  have HO := Lib.hid hok
  have HA := Lib.hid hA
  clear hn hb hok hA
  go_enter Try.func5, Try.ntmps5
  go_wp2_with fail
  refine (awake_any _).mono ?_
  rintro _ w1 ⟨rfl, hb⟩
  have B := Lib.hid hb
  clear hb
  by_cases c1 : 60 < n
  · go_wp2_with fail
    go_ret
    exact ⟨rfl, B.out⟩
  by_cases c2 : at' < 0
  · go_wp2_with fail
    go_ret
    exact ⟨rfl, B.out⟩
  by_cases c3 : (n : Int) < at'
  · go_wp2_with fail
    go_ret
    exact ⟨rfl, B.out⟩
  obtain ⟨m, rfl⟩ := Int.eq_ofNat_of_zero_le (show 0 ≤ at' by omega)
  have O := Lib.hid (OwnV.new w1)
  have B2 := Lib.hid (below_box B.out (.cells #[] 23))
  have hmn : (m : Int) ≤ n := by omega
  have hmn' : m ≤ n := by omega
  go_wp2_with fail
  clear hmn
  go_loopw [5, 6] (BackRel w w1.heap.size L) (fun _ i _ => (intOf i + 1).toNat)
  case atStart => exact ⟨n, by rw [HN.out]; omega, rfl, by rw [List.drop_of_length_le (by rw [HN.out]; omega)]; exact O.out, B2.out, by simp⟩
  case round =>
    obtain ⟨k, hk, rfl, own, bel, hbase⟩ := hrel
    cases k with
    | succ j =>
      have hjl : j < L.length := by omega
      have hjn : j < n := by rw [← HN.out]; exact hjl
      have hjn' : (j : Int) < n := by omega
      have e1 : ((j + 1 : Nat) : Int) - 1 = (j : Int) := by omega
      rw [e1]
      obtain ⟨b, off, rfl, hb1, hb2⟩ := HB.out (fun e => by rw [e] at hjl; simp at hjl)
      obtain ⟨a1, a2, a3⟩ := hb2 j L[j] (List.getElem?_eq_getElem hjl)
      have d1 := (bel.cell (p := ⟨b, _, none⟩) hb1).trans a1
      have d2 := (bel.cell (p := ⟨b, _, none⟩) hb1).trans a2
      have d3 := (bel.cell (p := ⟨b, _, none⟩) hb1).trans a3
      have hsn := rev_snoc L j hjl
      have hlr : ((L.drop (j + 1)).reverse).length + 1 ≤ 1000000 := by have := HN.out; simp; omega
      obtain ⟨x, y, z, hv⟩ : ∃ x y z, L[j] = ⟨x, y, z⟩ := ⟨_, _, _, rfl⟩
      rw [hv] at d1 d2 d3 hsn
      have own' := own.below ((Below.refl _ wr).alloc (Nat.le_refl _) (.cells #[.int .i64 x, .int .i64 y, .int .i64 z] 23))
      have OW := Lib.hid own'
      have BE := Lib.hid (below_box bel (.cells #[.int .i64 x, .int .i64 y, .int .i64 z] 23))
      have HS := Lib.hid hsn
      have V1 := Lib.hid (vecs_1 wr x y z)
      have BA := Lib.hid hbase
      have HL := Lib.hid hlr
      clear hb2 a1 a2 a3 own own' bel hv hsn e1 hbase hlr
      go_wp2_with ((at_builtin; (refine wp_appV rfl (.tmp 40) (.tmp 45) rfl w1.heap.size _ _ rfl OW.out (some ⟨wr.heap.size, 0, none⟩) 1 1 _ [⟨x, y, z⟩] rfl (fun h => by cases h) V1.out rfl (by omega) HL.out (by have := BA.out; simp; omega) ?_); intro v3 w3 own3 hb3; have O3 := Lib.hid own3; have B3 := Lib.hid hb3; clear own3 hb3))
      go_roundw
      case rel => exact ⟨j, by omega, by rfl, by rw [← HS.out]; exact O3.out, BE.out.trans (B3.out.mono (by have := BE.out.size; have := BA.out; have := B.out.size; omega)), by have h8 := B3.out.size; rw [World.size_alloc] at h8; have := BA.out; omega⟩
      case measure => simp [intOf]; omega
    | zero =>
      rw [List.drop_zero] at own
      rw [show ((0 : Nat) : Int) - 1 = -1 from by omega]
      obtain ⟨A2, cap2, rfl, hva, hc1, hc2⟩ := own.form
      have hl2 : L.reverse.length = n := by rw [List.length_reverse, HN.out]
      rw [hl2]
      have HV := Lib.hid hva
      have B := Lib.hid bel
      have hs := s_rev L
      have t1 := Lib.hid fun (W : World) (h : Below w.heap.size w W) => sum_any L A n cap W ((HB.out.on h).mono h.size) HN.out HO.out (by omega)
      have t2 := Lib.hid fun (W : World) (h : Below wr.heap.size wr W) => sum_any L.reverse A2 n cap2 W ((HV.out.on h).mono h.size) hl2 (fun v hv => HO.out v (List.mem_reverse.1 hv)) (by omega)
      rw [hs.1, hs.2.1, hs.2.2] at t2
      obtain ⟨p, q, r, e, he⟩ := outV_form (sX L) (sY L) (sZ L)
      have HE := Lib.hid he
      rw [he] at t1 t2
      have hq := fun W => eq23 p q r p q r W
      rw [eqV_refl] at hq
      clear own bel hva hs he hl2
      go_wp2_with fail
      refine (t1.out _ B.out).mono ?_
      rintro _ w2 ⟨rfl, hb⟩
      have B3 := Lib.hid ((hb.alloc hb.size (.cells #[.int .i64 p, .int .i64 q, .int .i64 r] 23)))
      have B := Lib.hid (below_box (below_step B.out hb) (.cells #[.int .i64 p, .int .i64 q, .int .i64 r] 23))
      have K := Lib.hid (BK.new w2 p q r)
      clear hb
      go_wp2_with fail
      refine (t2.out _ B3.out).mono ?_
      rintro _ w3 ⟨rfl, hb⟩
      have B := Lib.hid (below_box (below_step B.out hb) (.cells #[.int .i64 p, .int .i64 q, .int .i64 r] 23))
      have K := Lib.hid ((K.out.on hb K.out.lt).alloc (.cells #[.int .i64 p, .int .i64 q, .int .i64 r] 23))
      obtain ⟨K0, K1, K2⟩ := K.out.c3
      clear hb t1 t2
      go_wp2_with fail
      have htk : (L.take m).length = m := by rw [List.length_take, HN.out]; omega
      have t3 := Lib.hid fun (W : World) (h : Below w.heap.size w W) => sum_any (L.take m) A m cap W (((HB.out.on h).mono h.size).take m) htk (fun v hv => HO.out v (List.mem_of_mem_take hv)) (by omega)
      obtain ⟨p1, p2, p3, e1, he1⟩ := outV_form (sX (L.take m)) (sY (L.take m)) (sZ (L.take m))
      have HE1 := Lib.hid he1
      rw [he1] at t3
      clear he1 htk
      refine (t3.out _ B.out).mono ?_
      rintro _ w4 ⟨rfl, hb⟩
      have B := Lib.hid (below_box (below_step B.out hb) (.cells #[.int .i64 p1, .int .i64 p2, .int .i64 p3] 23))
      have K := Lib.hid ((K.out.on hb K.out.lt).alloc (.cells #[.int .i64 p1, .int .i64 p2, .int .i64 p3] 23))
      have N := Lib.hid (BK.new w4 p1 p2 p3)
      obtain ⟨K0, K1, K2⟩ := K.out.c3
      obtain ⟨N0, N1, N2⟩ := N.out.c3
      clear hb t3
      have hdl : (L.drop m).length = n - m := by rw [List.length_drop, HN.out]
      have hdo : ∀ v ∈ L.drop m, Vok v := fun v hv => HO.out v (List.mem_of_mem_drop hv)
      obtain ⟨r1, r2, r3, e2, he2⟩ := outV_form (sX (L.drop m)) (sY (L.drop m)) (sZ (L.drop m))
      have HE2 := Lib.hid he2
      -- what the sums of both parts come to, put together
      have hfin : e1 = 6 ∨ (e1 = 0 ∧ e2 = 6) ∨ (e1 = 0 ∧ e2 = 0 ∧ ∀ W : World, Calls Try.prog 11 #[.agg #[.int .i64 p1, .int .i64 p2, .int .i64 p3], .agg #[.int .i64 r1, .int .i64 r2, .int .i64 r3]] W (RetBelow (.tuple #[.agg #[.int .i64 p, .int .i64 q, .int .i64 r], .int .i64 e]) W)) := by
        have h1 := HE1.out
        have h0 := HE.out
        by_cases c1 : I64 (sX (L.take m)) ∧ I64 (sY (L.take m)) ∧ I64 (sZ (L.take m))
        · rw [outV_ok c1] at h1
          simp only [Value.tuple.injEq, Array.mk.injEq, List.cons.injEq, Value.agg.injEq, Value.int.injEq, true_and, and_true] at h1
          obtain ⟨⟨g1, g2, g3⟩, g4⟩ := h1
          by_cases c2 : I64 (sX (L.drop m)) ∧ I64 (sY (L.drop m)) ∧ I64 (sZ (L.drop m))
          · rw [outV_ok c2] at he2
            simp only [Value.tuple.injEq, Array.mk.injEq, List.cons.injEq, Value.agg.injEq, Value.int.injEq, true_and, and_true] at he2
            obtain ⟨⟨k1, k2, k3⟩, k4⟩ := he2
            refine .inr (.inr ⟨g4.symm, k4.symm, fun W => ?_⟩)
            have := add_ret (sX (L.take m)) (sY (L.take m)) (sZ (L.take m)) (sX (L.drop m)) (sY (L.drop m)) (sZ (L.drop m)) W c1.1 c1.2.1 c1.2.2 c2.1 c2.2.1 c2.2.2
            have cut := s_cut L m
            rw [cut.1, cut.2.1, cut.2.2, h0, g1, g2, g3, k1, k2, k3] at this
            exact this
          · have : outV (sX (L.drop m)) (sY (L.drop m)) (sZ (L.drop m)) = vecV 0 0 0 6 := by unfold outV; rw [if_neg c2]
            rw [this] at he2
            unfold vecV at he2
            simp only [Value.tuple.injEq, Array.mk.injEq, List.cons.injEq, Value.agg.injEq, Value.int.injEq, true_and, and_true] at he2
            exact .inr (.inl ⟨g4.symm, he2.2.symm⟩)
        · have : outV (sX (L.take m)) (sY (L.take m)) (sZ (L.take m)) = vecV 0 0 0 6 := by unfold outV; rw [if_neg c1]
          rw [this] at h1
          unfold vecV at h1
          simp only [Value.tuple.injEq, Array.mk.injEq, List.cons.injEq, Value.agg.injEq, Value.int.injEq, true_and, and_true] at h1
          exact .inl h1.2.symm
      have HF := Lib.hid hfin
      clear he2 hfin
      have hcase : (m = cap ∧ ∀ W : World, Below w.heap.size w W → Calls Try.prog 21 #[.slice A 0 0] W (RetBelow (outV (sX (L.drop m)) (sY (L.drop m)) (sZ (L.drop m))) W)) ∨ (m < cap ∧ ∀ W : World, Below w.heap.size w W → Calls Try.prog 21 #[.slice (A.map (·.add (m * 3))) (n - m) (cap - m)] W (RetBelow (outV (sX (L.drop m)) (sY (L.drop m)) (sZ (L.drop m))) W)) := by
        by_cases hcm : m = cap
        · refine .inl ⟨hcm, fun W h => sum_any (L.drop m) A 0 0 W (fun hne => absurd (List.drop_of_length_le (by rw [HN.out]; omega)) hne) (by rw [hdl]; omega) hdo (by omega)⟩
        · exact .inr ⟨by omega, fun W h => sum_any (L.drop m) _ (n - m) (cap - m) W (((HB.out.on h).mono h.size).drop' m) hdl hdo (by omega)⟩
      rw [HE2.out] at hcase
      clear hdl hdo
      have HC := Lib.hid hcase
      clear hcase
      rcases HC.out with ⟨hcm, t4⟩ | ⟨hcm, t4⟩
      all_goals
        have T4 := Lib.hid t4
        clear HC t4
      · subst hcm
        go_wp2_with fail
        refine (T4.out _ B.out).mono ?_
        rintro _ w5 ⟨rfl, hb⟩
        have B := Lib.hid (below_box (below_step B.out hb) (.cells #[.int .i64 r1, .int .i64 r2, .int .i64 r3] 23))
        have K := Lib.hid ((K.out.on hb K.out.lt).alloc (.cells #[.int .i64 r1, .int .i64 r2, .int .i64 r3] 23))
        have N := Lib.hid ((N.out.on hb N.out.lt).alloc (.cells #[.int .i64 r1, .int .i64 r2, .int .i64 r3] 23))
        have R := Lib.hid (BK.new w5 r1 r2 r3)
        obtain ⟨K0, K1, K2⟩ := K.out.c3
        obtain ⟨N0, N1, N2⟩ := N.out.c3
        obtain ⟨R0, R1, R2⟩ := R.out.c3
        clear hb T4
        rcases HF.out with rfl | ⟨rfl, rfl⟩ | ⟨rfl, rfl, t5⟩
        · clear HF
          go_wp2_with fail
          go_ret
          exact ⟨rfl, B.out⟩
        · clear HF
          go_wp2_with fail
          go_ret
          exact ⟨rfl, B.out⟩
        · have T5 := Lib.hid t5
          clear HF t5
          go_wp2_with fail
          refine (T5.out _).mono ?_
          rintro _ w6 ⟨rfl, hb⟩
          have B := Lib.hid (below_box (below_step B.out hb) (.cells #[.int .i64 p, .int .i64 q, .int .i64 r] 23))
          have K := Lib.hid ((K.out.on hb K.out.lt).alloc (.cells #[.int .i64 p, .int .i64 q, .int .i64 r] 23))
          obtain ⟨K0, K1, K2⟩ := K.out.c3
          clear hb
          go_wp2_with fail
          go_ret
          exact ⟨rfl, B.out⟩
      · have hcm' : (m == cap) = false := by rw [beq_eq_false_iff_ne]; omega
        go_wp2_with fail
        refine (T4.out _ B.out).mono ?_
        rintro _ w5 ⟨rfl, hb⟩
        have B := Lib.hid (below_box (below_step B.out hb) (.cells #[.int .i64 r1, .int .i64 r2, .int .i64 r3] 23))
        have K := Lib.hid ((K.out.on hb K.out.lt).alloc (.cells #[.int .i64 r1, .int .i64 r2, .int .i64 r3] 23))
        have N := Lib.hid ((N.out.on hb N.out.lt).alloc (.cells #[.int .i64 r1, .int .i64 r2, .int .i64 r3] 23))
        have R := Lib.hid (BK.new w5 r1 r2 r3)
        obtain ⟨K0, K1, K2⟩ := K.out.c3
        obtain ⟨N0, N1, N2⟩ := N.out.c3
        obtain ⟨R0, R1, R2⟩ := R.out.c3
        clear hb T4
        rcases HF.out with rfl | ⟨rfl, rfl⟩ | ⟨rfl, rfl, t5⟩
        · clear HF
          go_wp2_with fail
          go_ret
          exact ⟨rfl, B.out⟩
        · clear HF
          go_wp2_with fail
          go_ret
          exact ⟨rfl, B.out⟩
        · have T5 := Lib.hid t5
          clear HF t5
          go_wp2_with fail
          refine (T5.out _).mono ?_
          rintro _ w6 ⟨rfl, hb⟩
          have B := Lib.hid (below_box (below_step B.out hb) (.cells #[.int .i64 p, .int .i64 q, .int .i64 r] 23))
          have K := Lib.hid ((K.out.on hb K.out.lt).alloc (.cells #[.int .i64 p, .int .i64 q, .int .i64 r] 23))
          obtain ⟨K0, K1, K2⟩ := K.out.c3
          clear hb
          go_wp2_with fail
          go_ret
          exact ⟨rfl, B.out⟩
theorem law_order' (L : List V3) (A : Option Addr) (n cap : Nat) (at' : Int) (w : World) (hb : VecsAt w w.heap.size A L) (hn : L.length = n) (hok : ∀ v ∈ L, Vok v) (hnc : n ≤ cap) (hc : cap ≤ 9223372036854775807) (hA : A = none → cap = 0) (q0 : -9223372036854775808 ≤ at') (q1 : at' ≤ 9223372036854775807) :
    Calls Try.prog 5 #[.slice A n cap, .int .i64 at'] w (RetBelow (.bool true) w) := law_order L A n cap at' w hb hn hok hnc hc hA q0 q1
end Go.Proofs.Ytcmjehjjlbhlmaa
