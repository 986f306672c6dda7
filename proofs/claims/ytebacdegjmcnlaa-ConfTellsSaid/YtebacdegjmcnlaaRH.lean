/-
  The document's own answers on sets of members, walked: bits, sets, lists. No condition but that a bit's place is below 7.
-/
import Derived.Test.YtebacdegjmcnlaaAr
import Derived.Deep.QuietTactic
namespace Go.Proofs.Ytebacdegjmcnlaa
set_option maxRecDepth 20000
open Go.RowKit
set_option linter.unusedVariables false
def big (m : Int) : Nat := (m % ((2 ^ 64 : Nat) : Int)).toNat
theorem big_lt (m : Int) : big m < 18446744073709551616 := by unfold big; omega
theorem bit_big (m : Int) (i : Nat) (h : i < 7) : CP.bit m i = decide (big m / 2 ^ i % 2 = 1) := by
  rw [CP.bit_lsb m i h, BitVec.getLsbD, BitVec.toNat_ofInt, Nat.testBit_eq_decide_div_mod_eq]
  rfl
theorem u64_big (m : Int) : IntKind.u64.wrap m = ((big m : Nat) : Int) := by
  unfold big
  rw [IntKind.wrap_u64]
  omega
theorem rdI_one {w : World} (x : Int) (o : TypeId) : Rd DI (w.alloc (.cells #[.int .i64 x] o)) (fun q => q = w.heap.size) (some ⟨w.heap.size, 0, none⟩) [x] := fun _ => ⟨_, 0, rfl, rfl, by simp, fun i y hy q u hu => by
  match i, q, hy, hu with
  | 0, 0, hy, hu => obtain rfl : x = y := by simpa using hy
                    obtain rfl : Value.int .i64 x = u := by simpa [DI] using hu
                    simp
  | 0, q + 1, hy, hu => simp [DI] at hu
  | i + 1, _, hy, _ => simp at hy⟩
theorem rHas_any (m : Int) (i : Nat) (hi : i < 7) (w : World) : Calls Try.prog 22 #[.int .i64 m, .int .i64 (i : Nat)] w (RetBelow (.bool (CP.bit m i)) w) := by
  have hb := u64_big m
  rw [bit_big m i hi]
  have hM := big_lt m
  generalize big m = M at *
  obtain ⟨q, hq⟩ : ∃ q : Nat → Nat, q = fun k => M / 2 ^ k := ⟨_, rfl⟩
  have HQ0 : Hid (q 0 = M) := Lib.hid (by rw [hq]; simp)
  have HQS : Hid (∀ k, q (k + 1) = q k / 2) := Lib.hid fun k => by rw [hq]; simp only [Nat.pow_succ, ← Nat.div_div_eq_div_mul]
  have HQB : Hid (∀ k, q k < 18446744073709551616) := Lib.hid fun k => by rw [hq]; exact Nat.lt_of_le_of_lt (Nat.div_le_self _ _) hM
  rw [show M / 2 ^ i = q i by rw [hq]]
  clear hq hM
  rw [← HQ0.out] at hb
  clear HQ0
  go_enter Try.func22, Try.ntmps22
  go_wp2_with fail
  go_loopw [5, 6] (fun v5 v6 wr => ∃ (k : Nat), v5 = .int .u64 ((q k : Nat) : Int) ∧ v6 = .int .i64 (k : Nat) ∧ k ≤ i ∧ wr = w) (fun _ v6 _ => i - (numOf v6).toNat)
  case atStart => exact ⟨0, rfl, rfl, by omega, rfl⟩
  case round =>
    obtain ⟨k, rfl, rfl, hk, rfl⟩ := hrel
    by_cases hk2 : (k : Int) < i
    · have g0 : decide ((k : Int) < i) = true := decide_eq_true hk2
      have g1 : k < i := by omega
      have h1 := HQS.out k
      have h2 := HQB.out k
      have e1 : Int.tdiv ((q k : Nat) : Int) 2 = ((q (k + 1) : Nat) : Int) := by
        rw [Int.tdiv_eq_ediv_of_nonneg (by omega)]
        omega
      have e2 : IntKind.u64.wrap ((q (k + 1) : Nat) : Int) = ((q (k + 1) : Nat) : Int) := by
        rw [IntKind.wrap_u64]
        omega
      clear h1 h2
      go_wp2_with fail
      exact ⟨⟨k + 1, rfl, rfl, by omega, trivial⟩, by simp [numOf]; omega⟩
    · have g0 : decide ((k : Int) < i) = false := decide_eq_false hk2
      have hk3 : k = i := by omega
      subst hk3
      have e0 : (((q k : Nat) : Int) % 2 == 1) = decide (q k % 2 = 1) := by
        rw [Bool.eq_iff_iff, beq_iff_eq, decide_eq_true_iff]
        omega
      go_wp2_with fail
      refine bodyPost_ret (results_tmp (fn := Try.f22) (t := 4) rfl _ _ _) rfl ?_
      refine ⟨?_, Below.refl _ _⟩
      rw [← e0]
      rfl
theorem rMay_any (m : Int) (w : World) : Calls Try.prog 10 #[.int .i64 m] w (RetBelow (.bool (decide (CP.May m))) w) := by
  by_cases h1 : 1 ≤ m
  · by_cases h2 : m ≤ 127
    · have e : decide (CP.May m) = true := decide_eq_true ⟨h1, h2⟩
      rw [e]
      have g1 : decide (1 ≤ m) = true := decide_eq_true h1
      have g2 : decide (m ≤ 127) = true := decide_eq_true h2
      clear h1 h2 e
      go_enter Try.func10, Try.ntmps10
      go_wp2_with fail
      go_ret
      exact ⟨rfl, Below.refl _ _⟩
    · have e : decide (CP.May m) = false := decide_eq_false fun h => h2 h.2
      rw [e]
      have g1 : decide (1 ≤ m) = true := decide_eq_true h1
      have g2 : decide (m ≤ 127) = false := decide_eq_false h2
      clear h1 h2 e
      go_enter Try.func10, Try.ntmps10
      go_wp2_with fail
      go_ret
      exact ⟨rfl, Below.refl _ _⟩
  · have e : decide (CP.May m) = false := decide_eq_false fun h => h1 h.1
    rw [e]
    have g1 : decide (1 ≤ m) = false := decide_eq_false h1
    clear h1 e
    go_enter Try.func10, Try.ntmps10
    go_wp2_with fail
    go_ret
    exact ⟨rfl, Below.refl _ _⟩
set_option maxHeartbeats 1000000 in
theorem rList_any (m : Int) (w : World) : Calls Try.prog 13 #[.int .i64 m] w (LsP (CP.lst m) w) := by
  have HM : Hid (∀ X, Calls Try.prog 10 #[.int .i64 m] X (RetBelow (.bool (decide (CP.May m))) X)) := Lib.hid fun X => rMay_any m X
  have HH : Hid (∀ i, i < 7 → ∀ X, Calls Try.prog 22 #[.int .i64 m, .int .i64 (i : Nat)] X (RetBelow (.bool (CP.bit m i)) X)) := Lib.hid fun i hi X => rHas_any m i hi X
  have HB0 : Hid (Below w.heap.size w (w.alloc (.cells #[] 3))) := Lib.hid ((Below.refl w.heap.size w).alloc (Nat.le_refl _) _)
  have HO0 : Hid (OwnS DI (w.alloc (.cells #[] 3)) (fun k => w.heap.size ≤ k) (.slice (some ⟨w.heap.size, 0, none⟩) 0 0) []) := Lib.hid (OwnS.made (D := DI) (L := []) (xs := []) (cap := 0) (cur := #[]) (heap_alloc_new w _) (Nat.le_refl _) (Nat.le_refl _) (by decide) (by simp) (by simp [flat]))
  by_cases h : CP.May m
  · have e : CP.lst m = upTo m 7 := by unfold CP.lst; rw [if_pos h]; rfl
    rw [e]
    rw [decide_eq_true h] at HM
    clear h e
    go_enter Try.func13, Try.ntmps13
    go_wp2_with fail
    go_loopw [3, 4] (fun v3 v4 wr => ∃ (k : Nat), v4 = .int .i64 (k : Nat) ∧ k ≤ 7 ∧ Hid (OwnS DI wr (fun q => w.heap.size ≤ q) v3 (ints (upTo m k))) ∧ Hid (Below w.heap.size w wr)) (fun _ v4 _ => 7 - (numOf v4).toNat)
    case atStart => exact ⟨0, rfl, by omega, HO0, HB0⟩
    case round =>
      obtain ⟨k, rfl, hk, ho, hf⟩ := hrel
      by_cases hk2 : (k : Int) < 7
      · have hk3 : k < 7 := by omega
        have HHk := Lib.hid (HH.out k hk3)
        cases hbit : CP.bit m k with
        | true =>
          rw [hbit] at HHk
          have HS : Hid ((ints (upTo m k)).length + 1 ≤ 1000000) := Lib.hid (by have := upTo_le m k; rw [ints_length]; omega)
          have HU : Hid (ints (upTo m k) ++ [(k : Int)] = ints (upTo m (k + 1))) := Lib.hid (by rw [upTo_succ, hbit]; simp [ints])
          go_wp2_with (first
            | (at_builtin; refine wp_appO DI rfl _ _ rfl (fun q => w.heap.size ≤ q) (fun q => q = w3.heap.size) _ (ints (upTo m k)) rfl HO.out (some ⟨w3.heap.size, 0, none⟩) 1 1 [(k : Int)] rfl (fun h => by cases h) HR.out rfl (Nat.le_refl _) HS.out ?_)
            | (go_at_call 22; (with_reducible refine (HHk.out _).mono ?_); rintro e w3 ⟨rfl, hb3⟩
               have HB2 : Hid (Below w.heap.size w (w3.alloc (.cells #[.int .i64 (k : Nat)] 3))) := Lib.hid ((HB1.out.trans (hb3.mono HB1.out.size)).alloc (by have := HB1.out.size; have := hb3.size; omega) _)
               have HO : Hid (OwnS DI (w3.alloc (.cells #[.int .i64 (k : Nat)] 3)) (fun q => w.heap.size ≤ q) u3 (ints (upTo m k))) := Lib.hid ((HO1.out.below hb3).below ((Below.refl _ w3).alloc (Nat.le_refl _) _))
               have HR := Lib.hid (rdI_one (w := w3) (k : Int) 3)
               clear hb3)
            | (go_at_call 10; (with_reducible refine (HM.out _).mono ?_); rintro e w2 ⟨rfl, hb2⟩
               have HB1 := Lib.hid (hf.out.trans (hb2.mono hf.out.size))
               have HO1 := Lib.hid (ho.out.below hb2)
               clear hb2))
          intro v' w4 ho2 hf2 _
          rw [HU.out] at ho2
          have HO2 : Hid (OwnS DI w4 (fun q => w.heap.size ≤ q) v' (ints (upTo m (k + 1)))) := Lib.hid (ho2.mono fun q _ hq => hq.elim id fun hq => by have := HB2.out.size; omega)
          have HF2 : Hid (Below w.heap.size w w4) := Lib.hid (HB2.out.trans (hf2.below (HB2.out.size) fun q hq => hq))
          clear ho2 hf2 HO HR HB2 HS HU
          go_wp2_with fail
          exact ⟨⟨k + 1, rfl, by omega, HO2, HF2⟩, by simp [numOf]; omega⟩
        | false =>
          rw [hbit] at HHk
          have HU : Hid (ints (upTo m k) = ints (upTo m (k + 1))) := Lib.hid (by rw [upTo_succ, hbit]; simp [ints])
          go_wp2_with (first
            | (go_at_call 22; (with_reducible refine (HHk.out _).mono ?_); rintro e w3 ⟨rfl, hb3⟩)
            | (go_at_call 10; (with_reducible refine (HM.out _).mono ?_); rintro e w2 ⟨rfl, hb2⟩))
          have HF3 := Lib.hid ((hf.out.trans (hb2.mono hf.out.size)).trans (hb3.mono (by have := hf.out.size; have := hb2.size; omega)))
          exact ⟨⟨k + 1, rfl, by omega, Lib.hid (by rw [← HU.out]; exact (ho.out.below hb2).below hb3), HF3⟩, by simp [numOf]; omega⟩
      · have hk3 : k = 7 := by omega
        subst hk3
        obtain ⟨A, cap, rfl, h1, h2, h3, _⟩ := ho.out.form
        go_wp2_with fail
        go_ret
        rw [ints_length] at *
        exact ⟨A, cap, rfl, h1, h2, h3, hf.out⟩
  · have e : CP.lst m = [] := by unfold CP.lst; rw [if_neg h]
    rw [e]
    rw [decide_eq_false h] at HM
    clear h e
    go_enter Try.func13, Try.ntmps13
    go_wp2_with fail
    go_loopw [3, 4] (fun v3 v4 wr => v3 = .slice (some ⟨w.heap.size, 0, none⟩) 0 0 ∧ v4 = .int .i64 0 ∧ Hid (Below w.heap.size w wr)) (fun _ v4 _ => 0)
    case atStart => exact ⟨rfl, rfl, HB0⟩
    case round =>
      obtain ⟨rfl, rfl, hf⟩ := hrel
      go_wp2_with (go_at_call 10; (with_reducible refine (HM.out _).mono ?_); rintro e w2 ⟨rfl, hb2⟩)
      go_ret
      exact ⟨_, 0, rfl, Rd.nil _ _ _ _, Nat.le_refl _, by omega, hf.out.trans (hb2.mono hf.out.size)⟩
end Go.Proofs.Ytebacdegjmcnlaa
/-
  The document's own answers on sets of members, walked: majorities and near sets. No condition.
-/
namespace Go.Proofs.Ytebacdegjmcnlaa
set_option maxRecDepth 20000
open Go.RowKit
set_option linter.unusedVariables false
theorem cntl_snoc (l : List Nat) (x : Nat) (f : Nat → Bool) : CP.cntl (l ++ [x]) f = CP.cntl l f + (if f x then 1 else 0) := by
  unfold CP.cntl
  rw [List.filter_append, List.length_append]
  cases h : f x <;> simp [h]
theorem lst_lt {m : Int} {i : Nat} (h : i ∈ CP.lst m) : i < 7 := by
  unfold CP.lst at h
  split at h
  · exact CP.R_lt (List.mem_filter.1 h).1
  · simp at h
theorem ints_at {l : List Nat} {k : Nat} (h : k < l.length) : (ints l)[k]? = some (l[k] : Int) := by unfold ints; rw [List.getElem?_map, List.getElem?_eq_getElem h]; rfl
theorem rd_cell {W wr : World} {H : Nat → Prop} {b off : Nat} {l : List Nat} (hr : Rd DI W H (some ⟨b, off, none⟩) (ints l)) (hf : Below W.heap.size W wr) {k : Nat} (hk : k < l.length) : wr.cell? ⟨b, off + k, none⟩ = some (.int .i64 (l[k] : Nat)) := by
  obtain ⟨b', off', e, _, hlt, h4⟩ := hr.at_ (ints_at hk)
  injection e with e
  injection e with e1 e2
  subst e1 e2
  have := h4 0 _ rfl
  rw [show off + k * DI.m + 0 = off + k by simp [DI]] at this
  rw [← this]
  exact hf.cell (p := ⟨b, _, none⟩) hlt
theorem rd_addr {W : World} {H : Nat → Prop} {A : Option Addr} {l : List Nat} (hr : Rd DI W H A (ints l)) (h : 0 < l.length) : ∃ b off, A = some ⟨b, off, none⟩ := by
  obtain ⟨b, off, e, _⟩ := hr.at_ (ints_at h)
  exact ⟨b, off, e⟩
set_option maxHeartbeats 1000000 in
theorem rMost_any (m v : Int) (w : World) : Calls Try.prog 15 #[.int .i64 m, .int .i64 v] w (RetBelow (.bool (CP.most m v)) w) := by
  have HM : Hid (∀ X, Calls Try.prog 10 #[.int .i64 m] X (RetBelow (.bool (decide (CP.May m))) X)) := Lib.hid fun X => rMay_any m X
  have HL : Hid (∀ X, Calls Try.prog 13 #[.int .i64 m] X (LsP (CP.lst m) X)) := Lib.hid fun X => rList_any m X
  have HH : Hid (∀ i, i ∈ CP.lst m → ∀ X, Calls Try.prog 22 #[.int .i64 v, .int .i64 (i : Nat)] X (RetBelow (.bool (CP.bit v i)) X)) := Lib.hid fun i hi X => rHas_any v i (lst_lt hi) X
  have h7 := cnt_le m
  have HE : Hid (CP.most m v = (decide (CP.May m) && decide (((CP.lst m).length : Int) - (CP.cntl (CP.lst m) (CP.bit v) : Int) < (CP.cntl (CP.lst m) (CP.bit v) : Int)))) := Lib.hid (by
    unfold CP.most
    by_cases h : CP.May m
    · rw [decide_eq_true h, Bool.true_and, Bool.true_and, CP.cnt_land h, ← CP.cntl_lst h]
      unfold CP.cnt
      exact decide_eq_decide.2 ⟨fun h => by omega, fun h => by omega⟩
    · rw [decide_eq_false h, Bool.false_and, Bool.false_and])
  rw [HE.out]
  have HC : Hid (CP.cntl (CP.lst m) (CP.bit v) ≤ (CP.lst m).length) := Lib.hid (CP.cntl_le _ _)
  generalize CP.lst m = ls at *
  clear HE
  go_enter Try.func15, Try.ntmps15
  go_wp2_with (go_at_call 13; (with_reducible refine (HL.out _).mono ?_); rintro e w1 ⟨A2, cap2, rfl, hr2, hc2, hm2, hb1⟩)
  have HR2 := Lib.hid hr2
  have HB1 := Lib.hid hb1
  clear hr2 hb1
  go_loopw [6, 7] (fun v6 v7 wr => ∃ (k : Nat), v6 = .int .i64 (CP.cntl (ls.take k) (CP.bit v) : Nat) ∧ v7 = .int .i64 (k : Nat) ∧ k ≤ ls.length ∧ Hid (Below w1.heap.size w1 wr)) (fun _ v7 _ => ls.length - (numOf v7).toNat)
  case atStart => exact ⟨0, rfl, rfl, by omega, Lib.hid (Below.refl _ _)⟩
  case round =>
    obtain ⟨k, rfl, rfl, hk, hf⟩ := hrel
    by_cases hk2 : (k : Int) < ls.length
    · have hk3 : k < ls.length := by omega
      obtain ⟨b, off, rfl⟩ := rd_addr HR2.out (by omega)
      have c1 := rd_cell HR2.out hf.out hk3
      have HHk := Lib.hid (HH.out ls[k] (List.getElem_mem hk3))
      have hs := cntl_snoc (ls.take k) ls[k] (CP.bit v)
      rw [← take_snoc ls k hk3] at hs
      have hc7 : CP.cntl (ls.take k) (CP.bit v) ≤ 7 := by have := CP.cntl_le (CP.bit v) (ls.take k); rw [List.length_take] at this; omega
      generalize CP.bit v ls[k] = bt at *
      generalize ls[k] = i at *
      generalize CP.cntl (ls.take k) (CP.bit v) = c0 at *
      have HS := Lib.hid hs
      clear hs
      cases bt
      all_goals
        go_wp2_with (go_at_call 22; (with_reducible refine (HHk.out _).mono ?_); rintro e w2 ⟨rfl, hb2⟩)
        exact ⟨⟨k + 1, by rw [HS.out]; simp, rfl, by omega, Lib.hid (hf.out.trans (hb2.mono hf.out.size))⟩, by simp [numOf]; omega⟩
    · have hk3 : k = ls.length := by omega
      subst hk3
      rw [List.take_length]
      have hc := HC.out
      generalize CP.cntl ls (CP.bit v) = c0 at *
      have e1 : IntKind.i64.wrap ((ls.length : Int) - (c0 : Int)) = (ls.length : Int) - (c0 : Int) := by rw [IntKind.wrap_i64]; omega
      cases hM : decide (CP.May m)
      all_goals
        rw [hM] at HM
        have HMe := Lib.hid hM
        clear hM
        go_wp2_with (go_at_call 10; (with_reducible refine (HM.out _).mono ?_); rintro e w2 ⟨rfl, hb2⟩)
        refine bodyPost_ret (results_tmp (fn := Try.f15) (t := 4) rfl _ _ _) rfl ?_
        exact ⟨by rw [HMe.out]; rfl, HB1.out.trans ((hf.out.trans (hb2.mono hf.out.size)).mono HB1.out.size)⟩
set_option maxHeartbeats 1000000 in
theorem rNear_any (a b : Int) (w : World) : Calls Try.prog 17 #[.int .i64 a, .int .i64 b] w (RetBelow (.bool (CP.near a b)) w) := by
  have HMA : Hid (∀ X, Calls Try.prog 10 #[.int .i64 a] X (RetBelow (.bool (decide (CP.May a))) X)) := Lib.hid fun X => rMay_any a X
  have HMB : Hid (∀ X, Calls Try.prog 10 #[.int .i64 b] X (RetBelow (.bool (decide (CP.May b))) X)) := Lib.hid fun X => rMay_any b X
  have HHA : Hid (∀ i, i < 7 → ∀ X, Calls Try.prog 22 #[.int .i64 a, .int .i64 (i : Nat)] X (RetBelow (.bool (CP.bit a i)) X)) := Lib.hid fun i hi X => rHas_any a i hi X
  have HHB : Hid (∀ i, i < 7 → ∀ X, Calls Try.prog 22 #[.int .i64 b, .int .i64 (i : Nat)] X (RetBelow (.bool (CP.bit b i)) X)) := Lib.hid fun i hi X => rHas_any b i hi X
  have HE : Hid (CP.near a b = (decide (CP.May a) && decide (CP.May b) && decide ((CP.cntl (List.range 7) (fun i => CP.bit a i ^^ CP.bit b i) : Int) = 1))) := Lib.hid (by
    unfold CP.near
    by_cases h : CP.May a
    · by_cases k : CP.May b
      · rw [decide_eq_true h, decide_eq_true k, Bool.true_and, Bool.true_and, Bool.true_and, CP.cnt_lxor h k]
        exact decide_eq_decide.2 ⟨fun q => congrArg Int.ofNat q, fun q => Int.ofNat.inj q⟩
      · rw [decide_eq_false k, Bool.and_false, Bool.false_and, Bool.false_and]
    · rw [decide_eq_false h, Bool.false_and, Bool.false_and, Bool.false_and])
  rw [HE.out]
  clear HE
  go_enter Try.func17, Try.ntmps17
  go_wp2_with fail
  go_loopw [5, 6] (fun v5 v6 wr => ∃ (k : Nat), v5 = .int .i64 (CP.cntl (List.range k) (fun i => CP.bit a i ^^ CP.bit b i) : Nat) ∧ v6 = .int .i64 (k : Nat) ∧ k ≤ 7 ∧ Hid (Below w.heap.size w wr)) (fun _ v6 _ => 7 - (numOf v6).toNat)
  case atStart => exact ⟨0, rfl, rfl, by omega, Lib.hid (Below.refl _ _)⟩
  case round =>
    obtain ⟨k, rfl, rfl, hk, hf⟩ := hrel
    by_cases hk2 : (k : Int) < 7
    · have hk3 : k < 7 := by omega
      have HA := Lib.hid (HHA.out k hk3)
      have HB := Lib.hid (HHB.out k hk3)
      have hs := cntl_snoc (List.range k) k (fun i => CP.bit a i ^^ CP.bit b i)
      rw [← List.range_succ] at hs
      have hc7 : CP.cntl (List.range k) (fun i => CP.bit a i ^^ CP.bit b i) ≤ 7 := by have := CP.cntl_le (fun i => CP.bit a i ^^ CP.bit b i) (List.range k); rw [List.length_range] at this; omega
      generalize CP.cntl (List.range k) (fun i => CP.bit a i ^^ CP.bit b i) = c0 at *
      have HS := Lib.hid hs
      clear hs
      cases hA : CP.bit a k <;> cases hB : CP.bit b k
      all_goals
        rw [hA] at HA
        rw [hB] at HB
        rw [hA, hB] at HS
        clear hA hB
        go_wp2_with (first
          | (go_at_call 22; (with_reducible refine (HB.out _).mono ?_); rintro e w3 ⟨rfl, hb3⟩)
          | (go_at_call 22; (with_reducible refine (HA.out _).mono ?_); rintro e w2 ⟨rfl, hb2⟩))
        exact ⟨⟨k + 1, by rw [HS.out]; simp, rfl, by omega, Lib.hid ((hf.out.trans (hb2.mono hf.out.size)).trans (hb3.mono (Nat.le_trans hf.out.size hb2.size)))⟩, by simp [numOf]; omega⟩
    · have hk3 : k = 7 := by omega
      subst hk3
      cases hA : decide (CP.May a)
      · rw [hA] at HMA
        have HAe := Lib.hid hA
        clear hA
        go_wp2_with (go_at_call 10; (with_reducible refine (HMA.out _).mono ?_); rintro e w2 ⟨rfl, hb2⟩)
        refine bodyPost_ret (results_tmp (fn := Try.f17) (t := 4) rfl _ _ _) rfl ?_
        exact ⟨by rw [HAe.out]; rfl, hf.out.trans (hb2.mono hf.out.size)⟩
      · rw [hA] at HMA
        have HAe := Lib.hid hA
        clear hA
        cases hB : decide (CP.May b)
        all_goals
          rw [hB] at HMB
          have HBe := Lib.hid hB
          clear hB
          go_wp2_with (first
            | (go_at_call 10; (with_reducible refine (HMB.out _).mono ?_); rintro e w3 ⟨rfl, hb3⟩)
            | (go_at_call 10; (with_reducible refine (HMA.out _).mono ?_); rintro e w2 ⟨rfl, hb2⟩))
          refine bodyPost_ret (results_tmp (fn := Try.f17) (t := 4) rfl _ _ _) rfl ?_
          exact ⟨by rw [HAe.out, HBe.out]; rfl, (hf.out.trans (hb2.mono hf.out.size)).trans (hb3.mono (Nat.le_trans hf.out.size hb2.size))⟩
end Go.Proofs.Ytebacdegjmcnlaa
/-
  The number that most members have, as the document has it: plain. No condition.
-/
namespace Go.Proofs.Ytebacdegjmcnlaa.CP
/-- does a majority of the listed ones have what i has? -/
def cond (ls : List Nat) (L : List Int) (i : Nat) : Bool := decide ((ls.length : Int) - (cntl ls (fun k => decide (atL L i ≤ atL L k)) : Int) < (cntl ls (fun k => decide (atL L i ≤ atL L k)) : Int))
def rstep (ls : List Nat) (L : List Int) (n : Nat) (best : Int) (i : Nat) : Int := if n ≤ i then best else if cond ls L i = true ∧ best < atL L i then atL L i else best
def rbest (ls : List Nat) (L : List Int) (n : Nat) (k : Nat) : Int := (ls.take k).foldl (rstep ls L n) 0
theorem rbest_zero (ls : List Nat) (L : List Int) (n : Nat) : rbest ls L n 0 = 0 := rfl
theorem rbest_succ {ls : List Nat} {L : List Int} {n k : Nat} (h : k < ls.length) : rbest ls L n (k + 1) = rstep ls L n (rbest ls L n k) ls[k] := by
  unfold rbest
  rw [List.take_succ_eq_append_getElem h, List.foldl_append]
  rfl
theorem atL_past {L : List Int} {n i : Nat} (hn : L.length = n) (h : n ≤ i) : atL L i = 0 := by
  unfold atL; rw [List.getD_eq_getElem?_getD, List.getElem?_eq_none (by omega)]; rfl
theorem rbest_is {m : Int} (L : List Int) {n : Nat} (hn : L.length = n) : rbest (lst m) L n (lst m).length = reached m L := by
  by_cases h : May m
  rotate_left
  · rw [reached_not h]
    unfold lst
    rw [if_neg h]
    rfl
  have hc : ∀ i, cond (lst m) L i = decide (atL L i ≤ mid m L) := fun i => by
    unfold cond
    have := le_mid L (cnt_pos h) (atL L i)
    unfold cnt at this
    exact decide_eq_decide.2 ⟨fun q => this.2 (by omega), fun q => by have := this.1 q; omega⟩
  have key : ∀ k, k ≤ (lst m).length → 0 ≤ rbest (lst m) L n k ∧ rbest (lst m) L n k ≤ max 0 (mid m L) ∧ ∀ j (hj : j < k) (hj2 : j < (lst m).length), atL L (lst m)[j] ≤ mid m L → atL L (lst m)[j] ≤ rbest (lst m) L n k := by
    intro k
    induction k with
    | zero => intro _; exact ⟨by rw [rbest_zero]; omega, by rw [rbest_zero]; omega, fun j hj => absurd hj (Nat.not_lt_zero _)⟩
    | succ k ih =>
      intro hk
      obtain ⟨i1, i2, i3⟩ := ih (by omega)
      rw [rbest_succ (by omega : k < (lst m).length)]
      unfold rstep
      rw [hc]
      have hlast : ∀ j, j < k + 1 → j = k ∨ j < k := fun j hj => by omega
      split
      · rename_i hp
        have hz := atL_past hn hp
        refine ⟨i1, i2, fun j hj hj2 hle => ?_⟩
        rcases hlast j hj with rfl | hj
        · rw [hz]; exact i1
        · exact i3 j hj hj2 hle
      · split
        · rename_i hp hq
          have hq1 := of_decide_eq_true hq.1
          refine ⟨by omega, by omega, fun j hj hj2 hle => ?_⟩
          rcases hlast j hj with rfl | hj
          · exact Int.le_refl _
          · have := i3 j hj hj2 hle; omega
        · rename_i hp hq
          refine ⟨i1, i2, fun j hj hj2 hle => ?_⟩
          rcases hlast j hj with rfl | hj
          · rw [← Int.not_lt]
            exact fun hlt => hq ⟨decide_eq_true hle, hlt⟩
          · exact i3 j hj hj2 hle
  obtain ⟨k1, k2, k3⟩ := key (lst m).length (Nat.le_refl _)
  rw [reached_may h]
  have hmid : mid m L ∈ (lst m).map (atL L) := by
    have e : (vals m L).length = cnt m := by unfold vals cnt; rw [List.length_map]
    have hp := cnt_pos h
    have hj : (cnt m - 1) / 2 < (srt (vals m L)).length := by rw [srt_len, e]; omega
    have em : mid m L = (srt (vals m L))[(cnt m - 1) / 2] := by
      unfold mid
      rw [e, List.getD_eq_getElem?_getD, List.getElem?_eq_getElem hj, Option.getD_some]
    rw [em]
    exact (srt_perm (vals m L)).mem_iff.1 (List.getElem_mem hj)
  obtain ⟨i, hi, he⟩ := List.mem_map.1 hmid
  obtain ⟨j, hj, rfl⟩ := List.mem_iff_getElem.1 hi
  have := k3 j hj hj (by omega)
  omega
end Go.Proofs.Ytebacdegjmcnlaa.CP
/-
  Two lists of numbers compared, as the law does. No condition.
-/
namespace Go.Proofs.Ytebacdegjmcnlaa
set_option maxRecDepth 20000
open Go.RowKit
set_option linter.unusedVariables false
theorem bdrewN {B : Nat} {w X : World} (h : Below B w X) (n : Nat) : Below B w (X.drewN n) := ⟨h.os, h.tape, h.output, h.size, h.block⟩
set_option maxHeartbeats 1000000 in
theorem same_any {w : World} {H H' : Nat → Prop} {A A' : Option Addr} {l : List Nat} (c c' : Nat) (h : Rd DI w H A (ints l)) (h' : Rd DI w H' A' (ints l)) (h7 : l.length ≤ 7) : Calls Try.prog 11 #[.slice A l.length c, .slice A' l.length c'] w (RetBelow (.bool true) w) := by
  have HR := Lib.hid h
  have HR' := Lib.hid h'
  clear h h'
  go_enter Try.func11, Try.ntmps11
  go_wp2_with fail
  go_loopw [13] (fun v13 wr => ∃ (k : Nat), v13 = .int .i64 (k : Nat) ∧ k ≤ l.length ∧ Hid (Below w.heap.size w wr)) (fun v13 _ => l.length - (numOf v13).toNat)
  case atStart => exact ⟨0, rfl, by omega, Lib.hid (Below.refl _ _)⟩
  case round =>
    obtain ⟨k, rfl, hk, hf⟩ := hrel
    by_cases hk2 : (k : Int) < l.length
    · have hk3 : k < l.length := by omega
      obtain ⟨b, off, rfl⟩ := rd_addr HR.out (by omega)
      obtain ⟨b', off', rfl⟩ := rd_addr HR'.out (by omega)
      have c1 := rd_cell HR.out hf.out hk3
      have c2 := rd_cell HR'.out hf.out hk3
      have d1 := rd_cell HR.out hf.out.drew hk3
      have d2 := rd_cell HR'.out hf.out.drew hk3
      generalize l[k] = x at *
      go_wp2_with fail
      go_quiet (fail)
      go_wp2_with fail
      exact ⟨⟨k + 1, rfl, by omega, Lib.hid (bdrewN hf.out nq)⟩, by simp [numOf]; omega⟩
    · have hk3 : k = l.length := by omega
      subst hk3
      go_wp2_with fail
      go_ret
      exact ⟨rfl, hf.out⟩
end Go.Proofs.Ytebacdegjmcnlaa
/-
  The number that most members have, as the document has it: walked. Condition: the slice has at most 2^62 numbers.
-/
namespace Go.Proofs.Ytebacdegjmcnlaa
set_option maxRecDepth 20000
open Go.RowKit
set_option linter.unusedVariables false
theorem rdL_cell {w wr : World} {H : Nat → Prop} {b off n : Nat} {L : List Int} (hr : Rd DL w H (some ⟨b, off, none⟩) L) (hf : Below w.heap.size w wr) (hn : L.length = n) {i : Nat} (hi : i < n) : wr.cell? ⟨b, off + i, none⟩ = some (.int .i64 (CP.atL L i)) := by
  have hx : L[i]? = some (CP.atL L i) := by unfold CP.atL; rw [List.getD_eq_getElem?_getD, List.getElem?_eq_getElem (by omega)]; rfl
  obtain ⟨b', off', e, _, hlt, h4⟩ := hr.at_ hx
  injection e with e
  injection e with e1 e2
  subst e1 e2
  have := h4 0 _ rfl
  rw [show off + i * DL.m + 0 = off + i by simp [DL]] at this
  rw [← this]
  exact hf.cell (p := ⟨b, _, none⟩) hlt
theorem rdL_addr {w : World} {H : Nat → Prop} {A : Option Addr} {L : List Int} (hr : Rd DL w H A L) (h : 0 < L.length) : ∃ b off, A = some ⟨b, off, none⟩ := by
  obtain ⟨b, off, e, _⟩ := hr.at_ (List.getElem?_eq_getElem h)
  exact ⟨b, off, e⟩
set_option maxHeartbeats 4000000 in
theorem rReached_any {w : World} {H : Nat → Prop} {A : Option Addr} {n c : Nat} {L : List Int} (m : Int) (hr : Rd DL w H A L) (hn : L.length = n) : Calls Try.prog 19 #[.int .i64 m, .slice A n c] w (RetBelow (.int .i64 (CP.reached m L)) w) := by
  rw [← CP.rbest_is L hn]
  have HL : Hid (∀ X, Calls Try.prog 13 #[.int .i64 m] X (LsP (CP.lst m) X)) := Lib.hid fun X => rList_any m X
  have h7 := cnt_le m
  have HLT : Hid (∀ i, i ∈ CP.lst m → i < 7) := Lib.hid fun i hi => lst_lt hi
  have HR := Lib.hid hr
  have HN := Lib.hid hn
  clear hr hn
  generalize CP.lst m = ls at *
  go_enter Try.func19, Try.ntmps19
  go_wp2_with (go_at_call 13; (with_reducible refine (HL.out _).mono ?_); rintro e w1 ⟨A2, cap2, rfl, hr2, hc2, hm2, hb1⟩)
  have HR2 := Lib.hid hr2
  have HB1 := Lib.hid hb1
  clear hr2 hb1
  go_loopw [6, 7] (fun v6 v7 wr => ∃ (k : Nat), v6 = .int .i64 (CP.rbest ls L n k) ∧ v7 = .int .i64 (k : Nat) ∧ k ≤ ls.length ∧ Hid (Below w1.heap.size w1 wr)) (fun _ v7 _ => ls.length - (numOf v7).toNat)
  case atStart => exact ⟨0, rfl, rfl, by omega, Lib.hid (Below.refl _ _)⟩
  case round =>
    obtain ⟨k, rfl, rfl, hk, hf⟩ := hrel
    by_cases hk2 : (k : Int) < ls.length
    · have hk3 : k < ls.length := by omega
      obtain ⟨b2, off2, rfl⟩ := rd_addr HR2.out (by omega)
      have c1 := rd_cell HR2.out hf.out hk3
      have hi7 := HLT.out _ (List.getElem_mem hk3)
      have HST := Lib.hid (CP.rbest_succ (ls := ls) (L := L) (n := n) hk3)
      have hfw := hf.out
      have HFW : Hid (Below w.heap.size w wr) := Lib.hid (HB1.out.trans (hfw.mono HB1.out.size))
      clear hfw
      have HCI : Hid (∀ X, Below w1.heap.size w1 X → X.cell? ⟨b2, off2 + k, none⟩ = some (.int .i64 (ls[k] : Nat))) := Lib.hid fun X hX => rd_cell HR2.out hX hk3
      obtain ⟨i, hi⟩ : ∃ i, i = ls[k] := ⟨_, rfl⟩
      rw [← hi] at c1 hi7 HST HCI
      clear hi
      unfold CP.rstep at HST
      by_cases hin : n ≤ i
      · have g0 : decide (n ≤ i) = true := decide_eq_true hin
        rw [if_pos hin] at HST
        go_wp2_with fail
        exact ⟨⟨k + 1, by rw [HST.out], rfl, by omega, hf⟩, by simp [numOf]; omega⟩
      · have g0 : decide (n ≤ i) = false := decide_eq_false hin
        rw [if_neg hin] at HST
        have hin2 : i < n := by omega
        obtain ⟨b, off, rfl⟩ := rdL_addr HR.out (by have := HN.out; omega)
        have cI := rdL_cell HR.out HFW.out HN.out hin2
        go_wp2_with fail
        go_loopw [8, 9] (fun v8 v9 wr2 => ∃ (q : Nat), v8 = .int .i64 (CP.cntl (ls.take q) (fun x => decide (CP.atL L i ≤ CP.atL L x)) : Nat) ∧ v9 = .int .i64 (q : Nat) ∧ q ≤ ls.length ∧ Hid (Below wr.heap.size wr wr2)) (fun _ v9 _ => ls.length - (numOf v9).toNat)
        case atStart => exact ⟨0, rfl, rfl, by omega, Lib.hid (Below.refl _ _)⟩
        case round =>
          obtain ⟨q, rfl, rfl, hq, hf2⟩ := hrel
          have HF2 : Hid (Below w1.heap.size w1 wr) := Lib.hid (hf.out.trans (hf2.out.mono hf.out.size))
          have HW2 : Hid (Below w.heap.size w wr) := Lib.hid (HFW.out.trans (hf2.out.mono HFW.out.size))
          have ci : wr.cell? ⟨b2, off2 + k, none⟩ = some (.int .i64 (i : Nat)) := HCI.out wr HF2.out
          have cJ := rdL_cell HR.out HW2.out HN.out hin2
          by_cases hq2 : (q : Int) < ls.length
          · have hq3 : q < ls.length := by omega
            have cx := rd_cell HR2.out HF2.out hq3
            have hs := cntl_snoc (ls.take q) ls[q] (fun x => decide (CP.atL L i ≤ CP.atL L x))
            rw [← take_snoc ls q hq3] at hs
            have hc7 : CP.cntl (ls.take q) (fun x => decide (CP.atL L i ≤ CP.atL L x)) ≤ 7 := by have := CP.cntl_le (fun x => decide (CP.atL L i ≤ CP.atL L x)) (ls.take q); rw [List.length_take] at this; omega
            obtain ⟨x, hx⟩ : ∃ x, x = ls[q] := ⟨_, rfl⟩
            rw [← hx] at cx hs
            clear hx
            generalize CP.cntl (ls.take q) (fun x => decide (CP.atL L i ≤ CP.atL L x)) = c0 at *
            by_cases hxn : x < n
            · have g1 : decide (x < n) = true := decide_eq_true hxn
              have g2 : decide (n ≤ x) = false := decide_eq_false (by omega)
              have cX := rdL_cell HR.out HW2.out HN.out hxn
              generalize CP.atL L x = ax at *
              generalize CP.atL L i = ai at *
              by_cases hle : ai ≤ ax
              · have g3 : decide (ai ≤ ax) = true := decide_eq_true hle
                rw [g3] at hs
                have HS := Lib.hid hs
                clear hs
                go_wp2_with fail
                go_quiet (fail)
                go_wp2_with fail
                exact ⟨⟨q + 1, by rw [HS.out]; simp, rfl, by omega, Lib.hid (bdrewN hf2.out nq)⟩, by simp [numOf]; omega⟩
              · have g3 : decide (ai ≤ ax) = false := decide_eq_false hle
                rw [g3] at hs
                have HS := Lib.hid hs
                clear hs
                go_wp2_with fail
                go_quiet (fail)
                go_wp2_with fail
                exact ⟨⟨q + 1, by rw [HS.out]; simp, rfl, by omega, Lib.hid (bdrewN hf2.out nq)⟩, by simp [numOf]; omega⟩
            · have g1 : decide (x < n) = false := decide_eq_false hxn
              have g2 : decide (n ≤ x) = true := decide_eq_true (by omega)
              rw [CP.atL_past HN.out (by omega : n ≤ x)] at hs
              generalize CP.atL L i = ai at *
              by_cases hle : ai ≤ 0
              · have g3 : decide (ai ≤ 0) = true := decide_eq_true hle
                rw [g3] at hs
                have HS := Lib.hid hs
                clear hs
                go_wp2_with fail
                go_quiet (fail)
                go_wp2_with fail
                exact ⟨⟨q + 1, by rw [HS.out]; simp, rfl, by omega, Lib.hid (bdrewN hf2.out nq)⟩, by simp [numOf]; omega⟩
              · have g3 : decide (ai ≤ 0) = false := decide_eq_false hle
                rw [g3] at hs
                have HS := Lib.hid hs
                clear hs
                go_wp2_with fail
                go_quiet (fail)
                go_wp2_with fail
                exact ⟨⟨q + 1, by rw [HS.out]; simp, rfl, by omega, Lib.hid (bdrewN hf2.out nq)⟩, by simp [numOf]; omega⟩
          · have hq3 : q = ls.length := by omega
            subst hq3
            rw [List.take_length]
            have hcd : CP.cond ls L i = decide ((ls.length : Int) - (CP.cntl ls (fun x => decide (CP.atL L i ≤ CP.atL L x)) : Int) < (CP.cntl ls (fun x => decide (CP.atL L i ≤ CP.atL L x)) : Int)) := rfl
            rw [hcd] at HST
            clear hcd
            have hc7 : CP.cntl ls (fun x => decide (CP.atL L i ≤ CP.atL L x)) ≤ ls.length := CP.cntl_le _ _
            generalize CP.cntl ls (fun x => decide (CP.atL L i ≤ CP.atL L x)) = c0 at *
            have e1 : IntKind.i64.wrap ((ls.length : Int) - (c0 : Int)) = (ls.length : Int) - (c0 : Int) := by rw [IntKind.wrap_i64]; omega
            generalize CP.rbest ls L n k = best at *
            by_cases hcc : (ls.length : Int) - (c0 : Int) < (c0 : Int)
            · have g1 : decide ((ls.length : Int) - (c0 : Int) < (c0 : Int)) = true := decide_eq_true hcc
              by_cases hbb : best < CP.atL L i
              · have g2 : decide (best < CP.atL L i) = true := decide_eq_true hbb
                have hs2 := HST.out
                rw [if_pos ⟨g1, hbb⟩] at hs2
                have HS2 := Lib.hid hs2
                clear hs2 HST
                generalize CP.atL L i = ai at *
                go_wp2_with fail
                exact ⟨⟨k + 1, by rw [HS2.out], rfl, by omega, HF2⟩, by simp [numOf]; omega⟩
              · have g2 : decide (best < CP.atL L i) = false := decide_eq_false hbb
                have hs2 := HST.out
                rw [if_neg (fun h => hbb h.2)] at hs2
                have HS2 := Lib.hid hs2
                clear hs2 HST
                generalize CP.atL L i = ai at *
                go_wp2_with fail
                exact ⟨⟨k + 1, by rw [HS2.out], rfl, by omega, HF2⟩, by simp [numOf]; omega⟩
            · have g1 : decide ((ls.length : Int) - (c0 : Int) < (c0 : Int)) = false := decide_eq_false hcc
              have hs2 := HST.out
              rw [if_neg (fun h => hcc (of_decide_eq_true h.1))] at hs2
              have HS2 := Lib.hid hs2
              clear hs2 HST
              go_wp2_with fail
              exact ⟨⟨k + 1, by rw [HS2.out], rfl, by omega, HF2⟩, by simp [numOf]; omega⟩
    · have hk3 : k = ls.length := by omega
      subst hk3
      go_wp2_with fail
      go_ret
      exact ⟨rfl, HB1.out.trans (hf.out.mono HB1.out.size)⟩
end Go.Proofs.Ytebacdegjmcnlaa
