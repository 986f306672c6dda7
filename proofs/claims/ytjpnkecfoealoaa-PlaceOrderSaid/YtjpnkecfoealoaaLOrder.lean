import Derived.Test.YtjpnkecfoealoaaQi
import Derived.Test.YtjpnkecfoealoaaQj
import Derived.Test.YtjpnkecfoealoaaLFits
namespace Go.Proofs.Ytjpnkecfoealoaa
set_option maxRecDepth 20000
open Go.RowKit
open Go.Proofs.Ytjpnkecfoealoaa.Vc (I64 fitB RetBelow DigsAt)
set_option linter.unusedVariables false

theorem unlike_succ {L : List Nd} {k : Nat} {n : Nd} (hn : L[k]? = some n) (h : Unlike (L.take k)) (hd : ∀ j m, j < k → L[j]? = some m → m.s ≠ n.s) : Unlike (L.take (k + 1)) := by
  intro i j a b ha hb hab
  rw [List.getElem?_take] at ha hb
  split at ha
  · rename_i h1
    split at hb
    · rename_i h2
      by_cases e1 : i = k
      · by_cases e2 : j = k
        · omega
        · subst e1
          rw [hn] at ha
          obtain rfl : n = a := by simpa using ha
          exact absurd hab.symm (hd j b (by omega) hb)
      · by_cases e2 : j = k
        · subst e2
          rw [hn] at hb
          obtain rfl : n = b := by simpa using hb
          exact absurd hab (hd i a (by omega) ha)
        · exact h i j a b (by rw [List.getElem?_take, if_pos (by omega)]; exact ha) (by rw [List.getElem?_take, if_pos (by omega)]; exact hb) hab
    · cases hb
  · cases ha
theorem take_rev {L : List Nd} {k : Nat} {n : Nd} (hn : L[k]? = some n) : (L.take (k + 1)).reverse = [n] ++ (L.take k).reverse := by
  have hl := (List.getElem?_eq_some_iff.1 hn)
  obtain ⟨h1, h2⟩ := hl
  rw [List.take_add_one, hn]
  simp
set_option maxHeartbeats 4000000 in
theorem law_order (L : List Nd) (A : Option Addr) (N c : Nat) (p q r : Int) (w : World) (hA : NodesAt w w.heap.size A L) (hN : L.length = N) (hNc : N ≤ c) (hc : c ≤ 9223372036854775807) (hok : ∀ n ∈ L, Nok n) (hno : A = none → c = 0) (bp : I64 p) (bq : I64 q) (br : I64 r) :
    Calls Try.prog 4 #[.slice A N c, .agg #[.int .i64 p, .int .i64 q, .int .i64 r]] w (RetBelow (.bool true) w) := by
  have k0 := Lib.hid awake_any
  have X0 := Lib.hid (LA.new w A L p q r)
  by_cases h40 : N ≤ 40
  · have KR := Lib.hid fun (X : World) (h : Below w.heap.size w X) => rank_any L A N c p q r X ((hA.on h).mono h.size) hN (by omega) hok bp bq br
    have KB := Lib.hid fun (B : Option Addr) (k : Nat) (X : World) (h : NodesAt X X.heap.size B L.reverse) => rank_any L.reverse B N k p q r X h (by rw [List.length_reverse]; exact hN) (by omega) (fun n hn => hok n (List.mem_reverse.1 hn)) bp bq br
    have HA := Lib.hid hA
    have HN := Lib.hid hN
    have h41 : decide (40 < N) = false := by simpa using h40
    have h42 : decide ((40 : Int) < N) = false := by simp; omega
    have H40 := Lib.hid h40
    clear hA hN hNc hc hok hno bp bq br h40
    go_enter Try.func4, Try.ntmps4
    go_wp2_with (go_at_call 9; (with_reducible refine (k0.out _).mono ?_); rintro e w1 ⟨rfl, hb⟩; have X1 := Lib.hid (X0.out.on hb); clear hb)
    have X2 := Lib.hid (X1.out.on ((Below.refl _ w1).alloc (Nat.le_refl _) (.cells #[] 33)))
    have O2 := Lib.hid (OwnN.new w1)
    generalize hw2 : w1.alloc (.cells #[] 33) = w2 at *
    have hb1 : w1.heap.size ≤ w2.heap.size := by rw [← hw2]; simp
    have HB1 := Lib.hid hb1
    clear hw2 hb1
    go_loopw [5, 19] (fun t5 t19 wr => ∃ (k : Nat) (v : Value), k ≤ N ∧ t5 = v ∧ t19 = .int .i64 k ∧ LA w wr A L p q r ∧ OwnN wr w1.heap.size v (L.take k).reverse ∧ Unlike (L.take k) ∧ w1.heap.size ≤ wr.heap.size) (fun _ t19 _ => N - (intOf t19).toNat)
    case atStart => exact ⟨0, _, Nat.zero_le _, rfl, rfl, X2.out, by rw [List.take_zero]; exact O2.out, fun i j n m h => by rw [List.take_zero] at h; simp at h, HB1.out⟩
    case round =>
    obtain ⟨k, v, hk, rfl, rfl, hX, hO, hU, hS⟩ := hrel
    have HX := Lib.hid hX
    have HO := Lib.hid hO
    have HU := Lib.hid hU
    have HS := Lib.hid hS
    clear hX hO hU hS
    by_cases hp : k < N
    · have hkl : k < L.length := by rw [HN.out]; exact hp
      obtain ⟨b0, off0, rfl, hb0, _⟩ := HA.out (fun e => by rw [e] at hkl; cases hkl)
      have hn := List.getElem?_eq_getElem hkl
      generalize hnd : L[k] = n at *
      have hp' : (k : Int) < N := by omega
      have h40 := H40.out
      have HNK := Lib.hid hn
      clear hnd hn
      go_wp2_with fail
      obtain ⟨wq, hwq⟩ : ∃ x, x = wr := ⟨_, rfl⟩
      subst hwq
      go_loopw [7] (fun t7 wi => ∃ j : Nat, j ≤ k ∧ t7 = .int .i64 j ∧ Below wq.heap.size wq wi ∧ ∀ i m, i < j → L[i]? = some m → m.s ≠ n.s) (fun t7 _ => k - (intOf t7).toNat)
      case atStart => exact ⟨0, Nat.zero_le _, rfl, Below.refl _ _, fun i m h => by omega⟩
      case round =>
      obtain ⟨j, hj, rfl, hbi, hdist⟩ := hrel
      have HBI := Lib.hid hbi
      have HD := Lib.hid hdist
      clear hbi hdist
      have hXi := HX.out.on HBI.out
      by_cases hjk : j < k
      · have hjl : j < L.length := by omega
        have hm := List.getElem?_eq_getElem hjl
        generalize hmd : L[j] = m at *
        have e1 := (HA.out.at hXi.b HNK.out).c0
        have e2 := (HA.out.at hXi.b hm).c0
        have hj1 : (j : Int) < k := by omega
        have hj2 : (j : Int) < N := by omega
        have HMJ := Lib.hid hm
        clear hmd hm hXi
        by_cases hs : m.s = n.s
        · have t1 : ((Nm.str n.s).toList == (Nm.str m.s).toList) = true := by rw [hs]; exact beq_self_eq_true _
          have t2 : (Nm.str n.s).toList = (Nm.str m.s).toList := by rw [hs]
          have t3 : Nm.str n.s = Nm.str m.s := by rw [hs]
          clear hs
          go_wp2_with fail
          go_region
          go_wp2_with fail
          go_ret
          exact ⟨rfl, (HX.out.b.trans (HBI.out.mono HX.out.b.size)).drew⟩
        · have t4 : ¬ Nm.str n.s = Nm.str m.s := fun h => hs (Nm.str_inj.1 h).symm
          have t2 : ¬ (Nm.str n.s).toList = (Nm.str m.s).toList := fun h => by
            rw [ByteArray.toList_eq, ByteArray.toList_eq, Nm.list_str, Nm.list_str] at h
            exact hs h.symm
          have t1 : ((Nm.str n.s).toList == (Nm.str m.s).toList) = false := by rw [beq_eq_false_iff_ne]; exact t2
          have HS2 := Lib.hid hs
          clear hs
          go_wp2_with fail
          go_region
          go_wp2_with fail
          go_roundw
          case rel =>
            refine ⟨j + 1, by omega, by go_num, HBI.out.drew, fun i m' hi hm' => ?_⟩
            by_cases e : i = j
            · subst e
              rw [HMJ.out] at hm'
              obtain rfl : m = m' := by simpa using hm'
              exact HS2.out
            · exact HD.out i m' (by omega) hm'
          case measure => simp [intOf] <;> omega
      · obtain rfl : j = k := by omega
        have hd8 : decide ((j : Int) < j) = false := by simp
        have hd9 : decide (j < j) = false := by simp
        have hX2 := hXi
        have hO2 := HO.out.below HBI.out
        have HU2 := Lib.hid (unlike_succ HNK.out HU.out (fun i m h1 h2 => HD.out i m h1 h2))
        have HT := Lib.hid (take_rev HNK.out)
        obtain ⟨c0, c1, c2, c3, c4, c5, c6, c7⟩ := HA.out.at hXi.b HNK.out
        obtain ⟨A5, cap5, rfl, hN5, hc5, _, hno5⟩ := hO2.form
        have X3 := Lib.hid (hXi.on ((Below.refl _ wr).alloc (Nat.le_refl _) (.cells (nodeC n).toArray 33)))
        have O1 := Lib.hid ((OwnN.one wr n).mono (show w1.heap.size ≤ wr.heap.size by have := HS.out; have := HBI.out.size; omega))
        have N5 := Lib.hid (hN5.on ((Below.refl _ wr).alloc (Nat.le_refl _) (.cells (nodeC n).toArray 33)))
        have hl5 : (L.take j).reverse.length = j := by rw [List.length_reverse, List.length_take]; omega
        have HL5 := Lib.hid hl5
        rw [hl5] at hc5 ⊢
        have HC5 := Lib.hid hc5
        have HNO5 := Lib.hid hno5
        have hszq : wr.heap.size ≤ (wr.alloc (.cells (nodeC n).toArray 33)).heap.size := by simp
        have HSZ := Lib.hid (show w1.heap.size ≤ (wr.alloc (.cells (nodeC n).toArray 33)).heap.size by have := HS.out; have := HBI.out.size; omega)
        unfold nodeC at X3 O1 N5 HSZ
        clear hX2 hO2 hXi hN5 hc5 hno5 hl5 hszq
        go_wp2_with (at_builtin; (refine wp_appN rfl (.tmp 42) (.tmp 43) rfl w1.heap.size _ [n] rfl O1.out A5 j cap5 wr.heap.size (L.take j).reverse rfl HNO5.out N5.out HL5.out HC5.out (by have := H40.out; simp; omega) HSZ.out ?_); intro v3 w3 own3 hb3; have O3 := Lib.hid own3; have B3 := Lib.hid hb3; clear own3 hb3)
        go_roundw
        case rel =>
          refine ⟨j + 1, _, by omega, rfl, by go_num, ?_, ?_, HU2.out, by have := B3.out.size; have := HSZ.out; omega⟩
          · have hlt := X3.out.v.lt
            exact ⟨X3.out.b.trans (B3.out.mono X1.out.b.size), X3.out.v.on B3.out (by have := X1.out.v.lt; omega)⟩
          · rw [HT.out]; exact O3.out
        case measure => simp [intOf] <;> omega
    · obtain rfl : k = N := by omega
      have hd8 : decide ((k : Int) < k) = false := by simp
      have hd9 : decide (k < k) = false := by simp
      have hUL : Unlike L := by
        have := HU.out
        rwa [List.take_of_length_le (by rw [HN.out]; omega)] at this
      have HUL := Lib.hid hUL
      have hO2 := HO.out
      rw [List.take_of_length_le (by rw [HN.out]; omega)] at hO2
      obtain ⟨A5, cap5, rfl, hN5, _, _, _⟩ := hO2.form
      have hl5 : L.reverse.length = k := by rw [List.length_reverse]; exact HN.out
      rw [hl5]
      have HN5 := Lib.hid hN5
      clear hUL hO2 hN5 hl5
      obtain ⟨v0, v1, v2⟩ := HX.out.v.c3
      go_wp2_with fail
      refine (KR.out _ HX.out.b).mono ?_
      rintro e w5 ⟨A6, cap6, R, rfl, hR, hD, hb⟩
      have X5 := Lib.hid (HX.out.on hb)
      have N6 := Lib.hid ((HN5.out.on hb).mono hb.size)
      have HR := Lib.hid hR
      have D5 := Lib.hid hD
      clear hb hR hD
      obtain ⟨v0, v1, v2⟩ := X5.out.v.c3
      generalize hRl : R.length = M at *
      have HRL := Lib.hid hRl
      clear hRl
      go_wp2_with fail
      refine (KB.out _ _ _ N6.out).mono ?_
      rintro e w6 ⟨A7, cap7, R', rfl, hR', hD', hb⟩
      have X6 := Lib.hid (X5.out.on hb)
      have D6 := Lib.hid (D5.out.on hb)
      have D7 := Lib.hid hD'
      have hRR := rank_rev HUL.out HR.out hR'
      have hRl' : R'.length = M := by rw [hRR, List.length_map]; exact HRL.out
      rw [hRl']
      have HRR := Lib.hid hRR
      have q1 : ((M : Int) != M) = false := by simp
      have hML : M ≤ 40 := by
        have := HR.out.1.length_eq
        have h2 := cand_len L p q r L.length
        have := HRL.out
        have := HN.out
        have := H40.out
        omega
      clear hb hRR hRl' hR' hD'
      go_wp2_with fail
      go_loopw [59] (fun t59 wr => ∃ i : Nat, i ≤ M ∧ t59 = .int .i64 i ∧ Below w6.heap.size w6 wr) (fun t59 _ => M - (intOf t59).toNat)
      case atStart => exact ⟨0, Nat.zero_le _, rfl, Below.refl _ _⟩
      case round =>
      obtain ⟨i, hi, rfl, hbi⟩ := hrel
      have HBI := Lib.hid hbi
      clear hbi
      by_cases him : i < M
      · have hiR : i < R.length := by rw [HRL.out]; exact him
        obtain ⟨ba, oa, rfl, hla, hca⟩ := D6.out (fun e => by rw [e] at hiR; cases hiR)
        have hiR' : i < R'.length := by rw [HRR.out, List.length_map]; exact hiR
        obtain ⟨bb, ob, rfl, hlb, hcb⟩ := D7.out (fun e => by rw [e] at hiR'; cases hiR')
        have ha := (HBI.out.cell (p := ⟨ba, oa + i, none⟩) hla).trans (hca i R[i] (List.getElem?_eq_getElem hiR))
        have hb' := (HBI.out.cell (p := ⟨bb, ob + i, none⟩) hlb).trans (hcb i (L.length - 1 - R[i]) (by rw [HRR.out, List.getElem?_map, List.getElem?_eq_getElem hiR]; rfl))
        have hxN : R[i] < k := by
          have := cand_lt L p q r L.length _ (HR.out.1.mem_iff.1 (List.getElem_mem hiR))
          rw [HN.out] at this
          exact this
        rw [HN.out] at hb'
        generalize R[i] = x at *
        obtain ⟨y, hy⟩ : ∃ y : Nat, y = k - 1 - x := ⟨_, rfl⟩
        rw [← hy] at hb'
        have g1 : decide ((x : Int) < 0) = false := by simp
        have g2 : decide ((k : Int) ≤ (x : Int)) = false := by simp; omega
        have g2b : decide (k ≤ x) = false := by simp; omega
        have g3 : IntKind.i64.wrap ((k : Int) - 1) = (k : Int) - 1 := by have := H40.out; simp [IntKind.wrap, IntKind.bits, IntKind.signed]; omega
        have g4 : IntKind.i64.wrap ((k : Int) - 1 - (x : Int)) = (k : Int) - 1 - (x : Int) := by have := H40.out; simp [IntKind.wrap, IntKind.bits, IntKind.signed]; omega
        have g5 : ((y : Int) != (k : Int) - 1 - (x : Int)) = false := by rw [bne_eq_false_iff_eq]; omega
        have hi1 : (i : Int) < M := by omega
        have HY := Lib.hid hy
        clear hca hcb hy hxN hiR hiR'
        go_wp2_with fail
        go_region
        go_wp2_with fail
        go_roundw
        case rel => exact ⟨i + 1, by omega, by go_num, HBI.out.drew⟩
        case measure => simp [intOf] <;> omega
      · obtain rfl : i = M := by omega
        have hd6 : decide ((i : Int) < i) = false := by simp
        have hd7 : decide (i < i) = false := by simp
        go_wp2_with fail
        go_ret
        exact ⟨rfl, X6.out.b.trans (HBI.out.mono X6.out.b.size)⟩
  · have h41 : (40 : Int) < N := by omega
    clear hA hN hNc hc hok hno bp bq br h40
    go_enter Try.func4, Try.ntmps4
    go_wp2_with (go_at_call 9; (with_reducible refine (k0.out _).mono ?_); rintro e w1 ⟨rfl, hb⟩; have X1 := Lib.hid (X0.out.on hb); clear hb)
    go_ret
    exact ⟨rfl, X1.out.b⟩
end Go.Proofs.Ytjpnkecfoealoaa
