import Derived.Test.YtlimjfnolidbmaaKm
namespace Go.Proofs.Ytlimjfnolidbmaa
set_option maxRecDepth 20000
open Go.RowKit RL
set_option linter.unusedVariables false
/-! ### Put behind what was cut; what is refused -/
set_option maxHeartbeats 4000000 in
theorem put_lt {w : World} {b : Nat} {T : Lg} {S H' : Nat → Prop} (h : Log w b T S) (hI : Inv T) {p t : Int} {q off n c : Nat} {l : List En} (hr : Rd DE w H' (some ⟨q, off, none⟩) l) (hn : l.length = n) (hc : n ≤ c) (hc2 : c ≤ 9223372036854775807) (hl : n ≤ 400000) (hp : I64 p) (hd : ∀ k, H' k → ¬ S k) (hz : T.refuse p t l.length = 0) (hpi : p < T.i) : Calls Try.prog 13 #[.pointer (some ⟨b, 0, none⟩), .int .i64 p, .int .i64 t, .slice (some ⟨q, off, none⟩) n c] w (PutP w b T S p t l) := by
  have H := Lib.hid h
  have HI := Lib.hid hI
  have HDJ := Lib.hid hd
  have i0 := hI.i0
  have i1m := hI.i1
  have hRF := refuse_any h hI (p := p) (t := t) (n := n) hp (by omega)
  rw [hn] at hz
  rw [hz] at hRF
  have HRF := Lib.hid hRF
  have HBS : Hid (∀ X, Below w.heap.size w X → Calls Try.prog 31 #[.pointer (some ⟨b, 0, none⟩)] X (RetBelow (.tuple #[.int .i64 T.i, .int .i64 T.t]) X)) := Lib.hid fun X hX => base_any (h.below hX)
  obtain ⟨p0, pM, pA, pB⟩ := refuse_zero hz
  have pA := pA hpi
  obtain ⟨d, hd1⟩ : ∃ d : Nat, (T.i - p).toNat = d := ⟨_, rfl⟩
  have hdI : T.i - p = (d : Int) := by omega
  have hdn : d < n := by omega
  obtain ⟨ll2, hl2⟩ : ∃ ll2, l.drop d = ll2 := ⟨_, rfl⟩
  obtain ⟨nn2, hn2⟩ : ∃ nn2, n - d = nn2 := ⟨_, rfl⟩
  obtain ⟨cc3, hc3⟩ : ∃ cc3, c - d = cc3 := ⟨_, rfl⟩
  obtain ⟨oo2, ho2⟩ : ∃ o, off + d * 2 = o := ⟨_, rfl⟩
  have HPL : Hid (T.i ≤ T.last) := Lib.hid (by unfold Lg.last; omega)
  have HE : Hid (∀ e w', PutP w b T S p t l e w' = (e = .returned (.tuple #[.int .i64 (T.putAt T.i ll2).2, .int .i64 0]) ∧ LogTo w w' b (T.putAt T.i ll2).1 S)) := Lib.hid fun e w' => by
    unfold PutP Lg.put
    rw [if_pos (by rw [hn]; exact hz), if_pos hpi, hd1, hl2]
  have HRD : Hid (Rd DE w H' (some ⟨q, oo2, none⟩) ll2) := Lib.hid (by rw [← ho2, ← hl2]; exact hr.drop d)
  have HN : Hid (ll2.length = nn2) := Lib.hid (by rw [← hl2, List.length_drop, hn, hn2])
  have g1 : decide (p < T.i) = true := by simpa using hpi
  have hwr : IntKind.i64.wrap (T.i - p) = (d : Int) := by rw [IntKind.wrap_i64]; omega
  have hcd : ¬ c = d := by omega
  have dI : (d : Int) ≤ (n : Int) := by omega
  have dI0 : 0 ≤ (d : Int) := by omega
  have hnc2 : nn2 ≤ cc3 := by omega
  have hnl2 : nn2 ≤ 400000 := by omega
  clear h hI hr hRF pA pB hd hn hz hl2 hd1 hdI
  go_enter Try.func13, Try.ntmps13
  go_wp2_with (first
    | (go_at_call 35; (with_reducible refine HRF.out.mono ?_); rintro e w1 ⟨rfl, hb1⟩)
    | (go_at_call 31; (with_reducible refine (HBS.out _ hb1).mono ?_); rintro e w2 ⟨rfl, hb2⟩))
  have HB00 := Lib.hid (hb1.trans (hb2.mono hb1.size))
  clear hb1 hb2
  have HB0 := Lib.hid HB00.out.drew
  go_region
  all_goals try simp only [hn2, hc3, ho2]
  all_goals clear hn2 hc3 ho2 hwr hcd dI dI0 hdn
  all_goals go_wp2_with fail
  all_goals
    go_loopw [43] (fun iV wr => ∃ j : Nat, iV = .int .i64 (j : Int) ∧ j ≤ nn2 ∧ Below w.heap.size w wr ∧ ∀ (i : Nat) (y : En), i < j → ll2[i]? = some y → T.term (T.i + 1 + (i : Int)) = some y.t) (fun iV _ => nn2 - (intOf iV).toNat)
    case atStart => exact ⟨0, rfl, Nat.zero_le _, HB0.out, fun i y h => absurd h (Nat.not_lt_zero _)⟩
    case round =>
      obtain ⟨j, rfl, hj, hb, ha⟩ := hrel
      have HB := Lib.hid hb
      have HA := Lib.hid ha
      clear hb ha
      by_cases hlt : j < nn2
      · obtain ⟨x, hx⟩ : ∃ x, ll2[j]? = some x := ⟨_, List.getElem?_eq_getElem (by have := HN.out; omega)⟩
        have HX := Lib.hid hx
        have HLT := Lib.hid hlt
        have i1 : (j : Int) < (nn2 : Int) := by omega
        have i2 : (j : Int) ≤ 1000000 := by omega
        obtain ⟨q0, o0, hq1, hq2, hq3, hq4⟩ := (HRD.out.below HB.out).at_ hx
        injection hq1 with hq1
        injection hq1 with hqa hqb
        subst hqa hqb
        have e0 : wr.cell? ⟨q, oo2 + j * 2, none⟩ = some (.int .i64 x.t) := hq4 0 _ rfl
        have e1 : wr.cell? ⟨q, oo2 + j * 2 + 1, none⟩ = some (.string x.d) := hq4 1 _ rfl
        clear hx hq2 hq3 hq4
        have HTM : Hid (∀ X, Below w.heap.size w X → Calls Try.prog 18 #[.pointer (some ⟨b, 0, none⟩), .int .i64 (T.i + 1 + (j : Int))] X (RetBelow (.tuple #[.int .i64 ((T.term (T.i + 1 + (j : Int))).getD 0), .bool (T.term (T.i + 1 + (j : Int))).isSome]) X)) := Lib.hid fun X hX => term_any (H.out.below hX) HI.out (by unfold I64; omega)
        have HTMC := Lib.hid (⟨_, rfl⟩ : ∃ o, T.term (T.i + 1 + (j : Int)) = o)
        have HB2 : Hid (Below w.heap.size w (wr.alloc (.cells #[.int .i64 x.t, .string x.d] 32))) := Lib.hid (HB.out.alloc HB.out.size _)
        have HR2 : Hid ((wr.alloc (.cells #[.int .i64 x.t, .string x.d] 32)).heap[wr.heap.size]? = some (.cells #[.int .i64 x.t, .string x.d] 32 (0, 0))) := Lib.hid (heap_alloc_new wr _)
        have HTR : Hid (∀ X, Below w.heap.size w X → Calls Try.prog 36 #[.pointer (some ⟨b, 0, none⟩), .int .i64 (T.i + 1 + (j : Int))] X fun e w' => e = .returned (.tuple #[]) ∧ LogTo X w' b ⟨T.i, T.t, T.L.take (T.i + j - T.i).toNat⟩ S) := Lib.hid fun X hX => by
          have hk : (T.i + j - T.i).toNat ≤ T.L.length := by
            rcases Nat.eq_zero_or_pos j with rfl | hj0
            · have := HPL.out
              unfold Lg.last at this
              omega
            · have hy := HA.out (j - 1) _ (by omega) (List.getElem?_eq_getElem (by have := HN.out; omega))
              have := (term_known.1 ⟨_, hy⟩).2
              unfold Lg.last at this
              omega
          have := trunc_any (H.out.below hX) HI.out hk
          rw [show T.i + 1 + (((T.i + j - T.i).toNat : Nat) : Int) = T.i + 1 + (j : Int) by omega] at this
          exact this
        have HOFF : Hid (T.term (T.i + 1 + (j : Int)) ≠ some x.t → T.putAt T.i ll2 = (⟨T.i, T.t, T.L.take (T.i + j - T.i).toNat ++ ll2.drop j⟩, T.i + 1 + j)) := Lib.hid fun h => by
          unfold Lg.putAt
          rw [diff_at HA.out HX.out h]
        have hcj : ¬ cc3 = j := by omega
        have jI : (j : Int) ≤ (nn2 : Int) := by omega
        have jI0 : 0 ≤ (j : Int) := by omega
        obtain ⟨o, ho⟩ := HTMC.out
        rw [ho] at HTM HOFF
        have HO := Lib.hid ho
        clear ho HTMC
        by_cases hox : o = some x.t
        · subst hox
          clear HOFF HTR
          go_wp2_with (go_at_call 18; (with_reducible refine (HTM.out _ ?_).mono ?_); exact HB2.out; rintro e w1 ⟨rfl, hb1⟩; have b0 := cell_of_row w1 _ 0 _ _ _ ((hb1.block wr.heap.size (by simp)).trans HR2.out))
          have HB3 := Lib.hid (HB2.out.trans (hb1.mono HB2.out.size))
          clear hb1
          go_roundw
          case rel => exact ⟨j + 1, rfl, by omega, HB3.out, fun i y hi hy => by
            rcases Nat.lt_or_ge i j with q | q
            · exact HA.out i y q hy
            · obtain rfl : i = j := by omega
              rw [HX.out] at hy
              cases hy
              exact HO.out⟩
          case measure => simp [intOf]; omega
        · have HPT := Lib.hid (HOFF.out hox)
          clear HOFF
          have fin : Hid (∀ (X w2 : World) (S2 : Nat → Prop) (v2 : Value), Below w.heap.size w X → LgAt w2 b ⟨T.i, T.t, T.L.take (T.i + j - T.i).toNat⟩ v2 S2 → (∀ k, S2 k → Up S X w2 k) → Fr S X w2 → ∃ A2 n2 c2, v2 = .slice A2 n2 c2 ∧ (A2 = none → c2 = 0) ∧ n2 ≤ c2 ∧ w2.cell? ⟨b, 2, none⟩ = some (.slice A2 n2 c2) ∧ w2.frozen? ⟨b, 2, none⟩ = false ∧ OwnS DE w2.drew (fun k => S2 k ∧ k ≠ b) (.slice A2 n2 c2) (T.L.take (T.i + j - T.i).toNat) ∧ Rd DE w2.drew H' (some ⟨q, oo2 + j * 2, none⟩) (ll2.drop j) ∧ (T.L.take (T.i + j - T.i).toNat).length + (nn2 - j) ≤ 1000000 ∧ ∀ v3 w3, OwnS DE w3 (Up (fun k => S2 k ∧ k ≠ b) w2.drew w3) v3 (T.L.take (T.i + j - T.i).toNat ++ ll2.drop j) → Fr (fun k => S2 k ∧ k ≠ b) w2.drew w3 → (∃ A3 n3 c3, v3 = .slice A3 n3 c3) ∧ w3.cell? ⟨b, 2, none⟩ = some v2 ∧ w3.frozen? ⟨b, 2, none⟩ = false ∧ LogTo w (w3.setCell ⟨b, 2, none⟩ v3) b (T.putAt T.i ll2).1 S) := Lib.hid fun X w2 S2 v2 hX hl2 hu2 hf2 => by
            obtain ⟨A2, c2, rfl, hr2, h4, h5, h6⟩ := hl2.row.form
            obtain ⟨_, _, d2, _, _, f2⟩ := lcells hl2.box
            refine ⟨A2, _, c2, rfl, fun q => (h6 q).1, h4, d2, f2, hl2.row.below (Below.refl _ _).drew, ?_, ?_, fun v3 w3 ho3 hf3 => ?_⟩
            · exact ((((HRD.out.below hX).fr hf2 HDJ.out).below (Below.refl _ _).drew).drop j)
            · have := HI.out.len
              have e9 : (T.L.take (T.i + j - T.i).toNat).length ≤ T.L.length := by rw [List.length_take]; omega
              omega
            · obtain ⟨p1, p2⟩ := put_end hl2 (Below.refl _ _).drew rfl ho3 hf3
              obtain ⟨A3, c3, e3, _⟩ := ho3.form
              obtain ⟨_, _, g2, _, _, k2⟩ := lcells p1
              refine ⟨⟨A3, _, c3, e3⟩, g2, k2, ?_⟩
              rw [HPT.out]
              exact LogTo.from_ hX (LogTo.go hu2 hf2 p2)
          have HRES : Hid ((T.putAt T.i ll2).2 = T.i + 1 + j) := Lib.hid (by rw [HPT.out])
          have LDR : Hid ((ll2.drop j).length = nn2 - j) := Lib.hid (by rw [List.length_drop]; have := HN.out; omega)
          have NJ : Hid (nn2 - j ≤ cc3 - j) := Lib.hid (by omega)
          cases o with
          | none =>
            go_wp2_with (first
              | (go_at_call 18; (with_reducible refine (HTM.out _ ?_).mono ?_); exact HB2.out; rintro e w1 ⟨rfl, hb1⟩; have HB3 := Lib.hid (HB2.out.trans (hb1.mono HB2.out.size)); clear hb1)
              | (go_at_call 36; (with_reducible refine (HTR.out _ HB3.out).mono ?_); rintro e w2 ⟨rfl, S2, ⟨v2, hl2⟩, hu2, hf2⟩; obtain ⟨A2, n2, c2, rfl, a2, nc2, d2, f2, ow2, rd2, ln2, fi2⟩ := fin.out _ _ _ _ HB3.out hl2 hu2 hf2; have O2 := Lib.hid ow2; have R2 := Lib.hid rd2; have L2 := Lib.hid ln2; have F2 := Lib.hid fi2; clear hl2 hu2 hf2 ow2 rd2 ln2 fi2))
            go_region_law (first
              | ((refine step_appO DE (by rfl) (.tmp 73) (.tmp 76) (by rfl) (fun k => S2 k ∧ k ≠ b) H' (.slice A2 n2 c2) _ (by rfl) O2.out (some ⟨q, oo2 + j * 2, none⟩) (nn2 - j) (cc3 - j) _ (by rfl) (fun h => by cases h) R2.out LDR.out NJ.out L2.out ?_); intro v3 w3 own3 fr3; obtain ⟨⟨A3, n3, c3, e3⟩, x2, y2, TT⟩ := F2.out v3 w3 own3.out fr3.out; subst e3; have T3 := Lib.hid TT; clear own3 fr3 TT))
            all_goals go_wp2_with fail
            all_goals refine bodyPost_ret (v := .tuple #[.int .i64 (T.i + 1 + (j : Int)), .int .i64 0]) (by simp [results, Try.results13, go_sem]) rfl ?_
            all_goals rw [HE.out, HRES.out]
            all_goals exact ⟨rfl, T3.out⟩
          | some u =>
            have g5 : (u == x.t) = false := by simp; intro e; exact hox (by rw [e])
            go_wp2_with (first
              | (go_at_call 18; (with_reducible refine (HTM.out _ ?_).mono ?_); exact HB2.out; rintro e w1 ⟨rfl, hb1⟩; have b0 := cell_of_row w1 _ 0 _ _ _ ((hb1.block wr.heap.size (by simp)).trans HR2.out); have HB3 := Lib.hid (HB2.out.trans (hb1.mono HB2.out.size)); clear hb1)
              | (go_at_call 36; (with_reducible refine (HTR.out _ HB3.out).mono ?_); rintro e w2 ⟨rfl, S2, ⟨v2, hl2⟩, hu2, hf2⟩; obtain ⟨A2, n2, c2, rfl, a2, nc2, d2, f2, ow2, rd2, ln2, fi2⟩ := fin.out _ _ _ _ HB3.out hl2 hu2 hf2; have O2 := Lib.hid ow2; have R2 := Lib.hid rd2; have L2 := Lib.hid ln2; have F2 := Lib.hid fi2; clear hl2 hu2 hf2 ow2 rd2 ln2 fi2))
            go_region_law (first
              | ((refine step_appO DE (by rfl) (.tmp 73) (.tmp 76) (by rfl) (fun k => S2 k ∧ k ≠ b) H' (.slice A2 n2 c2) _ (by rfl) O2.out (some ⟨q, oo2 + j * 2, none⟩) (nn2 - j) (cc3 - j) _ (by rfl) (fun h => by cases h) R2.out LDR.out NJ.out L2.out ?_); intro v3 w3 own3 fr3; obtain ⟨⟨A3, n3, c3, e3⟩, x2, y2, TT⟩ := F2.out v3 w3 own3.out fr3.out; subst e3; have T3 := Lib.hid TT; clear own3 fr3 TT))
            all_goals go_wp2_with fail
            all_goals refine bodyPost_ret (v := .tuple #[.int .i64 (T.i + 1 + (j : Int)), .int .i64 0]) (by simp [results, Try.results13, go_sem]) rfl ?_
            all_goals rw [HE.out, HRES.out]
            all_goals exact ⟨rfl, T3.out⟩
      · obtain rfl : nn2 = j := by omega
        have HPT : Hid (T.putAt T.i ll2 = (T, 0)) := Lib.hid (by
          unfold Lg.putAt
          rw [diff_all fun i y hy => HA.out i y (by have := HN.out; have := (List.getElem?_eq_some_iff.1 hy).1; omega) hy])
        go_wp2_with fail
        refine bodyPost_ret (v := .tuple #[.int .i64 0, .int .i64 0]) (by simp [results, Try.results13, go_sem]) rfl ?_
        rw [HE.out, HPT.out]
        exact ⟨rfl, H.out.to HB.out⟩

set_option maxHeartbeats 1000000 in
theorem put_no {w : World} {b : Nat} {T : Lg} {S : Nat → Prop} (h : Log w b T S) (hI : Inv T) {p t : Int} {A : Option Addr} {n c : Nat} {l : List En} (hn : l.length = n) (hl : n ≤ 400000) (hp : I64 p) (hz : T.refuse p t l.length ≠ 0) : Calls Try.prog 13 #[.pointer (some ⟨b, 0, none⟩), .int .i64 p, .int .i64 t, .slice A n c] w (PutP w b T S p t l) := by
  have H := Lib.hid h
  have HRF := Lib.hid (refuse_any h hI (p := p) (t := t) (n := n) hp (by omega))
  have HE : Hid (∀ e w', PutP w b T S p t l e w' = (e = .returned (.tuple #[.int .i64 0, .int .i64 (T.refuse p t n)]) ∧ LogTo w w' b T S)) := Lib.hid fun e w' => by
    unfold PutP Lg.put
    rw [if_neg hz, hn]
  have g1 : (T.refuse p t n == 0) = false := by rw [← hn]; simpa using hz
  clear h hI hz hn
  generalize T.refuse p t n = R at *
  go_enter Try.func13, Try.ntmps13
  go_wp2_with (go_at_call 35; (with_reducible refine HRF.out.mono ?_); rintro e w1 ⟨rfl, hb1⟩)
  refine bodyPost_ret (v := .tuple #[.int .i64 0, .int .i64 R]) (by simp [results, Try.results13, go_sem]) rfl ?_
  rw [HE.out]
  exact ⟨rfl, H.out.to hb1⟩
set_option maxHeartbeats 1000000 in
theorem put_nil {w : World} {b : Nat} {T : Lg} {S : Nat → Prop} {A : Option Addr} {c : Nat} (h : Log w b T S) (hI : Inv T) {p t : Int} (hp : I64 p) (hz : T.refuse p t 0 = 0) : Calls Try.prog 13 #[.pointer (some ⟨b, 0, none⟩), .int .i64 p, .int .i64 t, .slice A 0 c] w (PutP w b T S p t []) := by
  have H := Lib.hid h
  have HRF : Hid (Calls Try.prog 35 #[.pointer (some ⟨b, 0, none⟩), .int .i64 p, .int .i64 t, .int .i64 0] w (RetBelow (.int .i64 0) w)) := Lib.hid (by
    have := refuse_any h hI (p := p) (t := t) (n := 0) hp (by omega)
    rw [hz] at this
    exact this)
  have HBS : Hid (∀ X, Below w.heap.size w X → Calls Try.prog 31 #[.pointer (some ⟨b, 0, none⟩)] X (RetBelow (.tuple #[.int .i64 T.i, .int .i64 T.t]) X)) := Lib.hid fun X hX => base_any (h.below hX)
  obtain ⟨p0, pM, pA, pB⟩ := refuse_zero hz
  have hpi : T.i ≤ p := by
    rcases Int.lt_or_le p T.i with q | q
    · have := pA q; omega
    · exact q
  have HE : Hid (∀ e w', PutP w b T S p t [] e w' = (e = .returned (.tuple #[.int .i64 0, .int .i64 0]) ∧ LogTo w w' b T S)) := Lib.hid fun e w' => by
    unfold PutP Lg.put
    rw [show ([] : List En).length = 0 from rfl, if_pos hz, if_neg (by omega)]
    rfl
  have g1 : decide (p < T.i) = false := by simp; omega
  clear h hI hz pA pB
  go_enter Try.func13, Try.ntmps13
  go_wp2_with (first
    | (go_at_call 35; (with_reducible refine HRF.out.mono ?_); rintro e w1 ⟨rfl, hb1⟩)
    | (go_at_call 31; (with_reducible refine (HBS.out _ hb1).mono ?_); rintro e w2 ⟨rfl, hb2⟩))
  have HB0 := Lib.hid (hb1.trans (hb2.mono hb1.size))
  clear hb1 hb2
  go_loopw [43] (fun iV wr => iV = .int .i64 0 ∧ Below w.heap.size w wr) (fun iV _ => 0)
  case atStart => exact ⟨rfl, HB0.out⟩
  case round =>
    obtain ⟨rfl, hb⟩ := hrel
    go_wp2_with fail
    refine bodyPost_ret (v := .tuple #[.int .i64 0, .int .i64 0]) (by simp [results, Try.results13, go_sem]) rfl ?_
    rw [HE.out]
    exact ⟨rfl, H.out.to hb⟩
/-- Put: whatever is put -/
theorem put_any {w : World} {b : Nat} {T : Lg} {S H' : Nat → Prop} (h : Log w b T S) (hI : Inv T) {p t : Int} {A : Option Addr} {n c : Nat} {l : List En} (hr : Rd DE w H' A l) (hn : l.length = n) (hc : n ≤ c) (hc2 : c ≤ 9223372036854775807) (hl : n ≤ 400000) (hp : I64 p) (hd : ∀ k, H' k → ¬ S k) : Calls Try.prog 13 #[.pointer (some ⟨b, 0, none⟩), .int .i64 p, .int .i64 t, .slice A n c] w (PutP w b T S p t l) := by
  by_cases hz : T.refuse p t l.length = 0
  · by_cases hl0 : l = []
    · subst hl0
      obtain rfl : n = 0 := hn.symm
      exact put_nil h hI hp hz
    · obtain ⟨q, o, rfl, _⟩ := hr hl0
      rcases Int.lt_or_le p T.i with q2 | q2
      · exact put_lt h hI hr hn hc hc2 hl hp hd hz q2
      · exact put_ge h hI hr hn hc hc2 hl hp hd hz q2
  · exact put_no h hI hn hl hp hz
end Go.Proofs.Ytlimjfnolidbmaa
