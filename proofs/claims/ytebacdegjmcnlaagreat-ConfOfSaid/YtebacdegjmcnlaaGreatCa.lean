/-
  The functions of sets of members: what they answer. No condition.
-/
import Derived.Test.YtebacdegjmcnlaaGreatSl
import Derived.Test.YtebacdegjmcnlaaGreatPl
import Derived.Test.YtebacdegjmcnlaaGreatShelf
import Derived.LoopN
import Derived.Deep.RegionLaw
import Derived.Sort.OwnSortedInts
namespace Go.Proofs.YtebacdegjmcnlaaGreat
set_option maxRecDepth 20000
open Go.RowKit
set_option linter.unusedVariables false
theorem wrap_toInt (x : BitVec 64) : IntKind.i64.wrap ((x.toNat : Nat) : Int) = x.toInt := by
  rw [IntKind.wrap_i64, BitVec.toInt_eq_toNat_cond]
  have := x.isLt
  split <;> omega
theorem bits_land (a b : Int) : bits .and .i64 a b = CP.land a b := wrap_toInt _
theorem bits_lor (a b : Int) : bits .or .i64 a b = CP.lor a b := wrap_toInt _
theorem bits_lxor (a b : Int) : bits .xor .i64 a b = CP.lxor a b := wrap_toInt _
theorem i64_and1 (n : Int) : bits .and .i64 n 1 = n % 2 := by
  have h1 : (BitVec.ofInt 64 1).toNat = 2 ^ 1 - 1 := by decide
  have key : (BitVec.ofInt 64 n &&& BitVec.ofInt 64 1).toNat = (n % ((2 ^ 64 : Nat) : Int)).toNat % 2 ^ 1 := by
    rw [BitVec.toNat_and, BitVec.toNat_ofInt, h1, Nat.and_two_pow_sub_one_eq_mod]
  show IntKind.i64.wrap ((BitVec.ofInt 64 n &&& BitVec.ofInt 64 1).toNat : Nat) = n % 2
  rw [key, IntKind.wrap_i64]
  omega
/-- rows of int, of int64 -/
def DI : CT Int := ⟨fun x => [.int .i64 x], 1, 3, 36, .int .i64 0, 8, fun _ => rfl, fun x u h => by simp only [List.mem_cons, List.not_mem_nil, or_false] at h; rcases h with rfl; rfl, by omega, by omega, by rfl, by omega, by kernel_rfl, Tryz.underlying36⟩
def DL : CT Int := ⟨fun x => [.int .i64 x], 1, 2, 40, .int .i64 0, 8, fun _ => rfl, fun x u h => by simp only [List.mem_cons, List.not_mem_nil, or_false] at h; rcases h with rfl; rfl, by omega, by omega, by rfl, by omega, by kernel_rfl, Tryz.underlying40⟩
theorem confMay_any (m : Int) (w : World) : Calls Tryz.prog 8 #[.int .i64 m] w (RetBelow (.bool (decide (CP.May m))) w) := by
  by_cases h1 : 1 ≤ m
  · by_cases h2 : m ≤ 127
    · have e : decide (CP.May m) = true := decide_eq_true ⟨h1, h2⟩
      rw [e]
      have g1 : decide (1 ≤ m) = true := decide_eq_true h1
      have g2 : decide (m ≤ 127) = true := decide_eq_true h2
      clear h1 h2 e
      go_enter Tryz.func8, Tryz.ntmps8
      go_wp2_with fail
      go_ret
      exact ⟨rfl, Below.refl _ _⟩
    · have e : decide (CP.May m) = false := decide_eq_false fun h => h2 h.2
      rw [e]
      have g1 : decide (1 ≤ m) = true := decide_eq_true h1
      have g2 : decide (m ≤ 127) = false := decide_eq_false h2
      clear h1 h2 e
      go_enter Tryz.func8, Tryz.ntmps8
      go_wp2_with fail
      go_ret
      exact ⟨rfl, Below.refl _ _⟩
  · have e : decide (CP.May m) = false := decide_eq_false fun h => h1 h.1
    rw [e]
    have g1 : decide (1 ≤ m) = false := decide_eq_false h1
    clear h1 e
    go_enter Tryz.func8, Tryz.ntmps8
    go_wp2_with fail
    go_ret
    exact ⟨rfl, Below.refl _ _⟩
end Go.Proofs.YtebacdegjmcnlaaGreat
/-
  The list of a set's members, as the program makes it. No condition.
-/
namespace Go.Proofs.YtebacdegjmcnlaaGreat
set_option maxRecDepth 20000
open Go.RowKit
set_option linter.unusedVariables false
def ints (L : List Nat) : List Int := L.map fun i : Nat => (i : Int)
/-- a list of numbers, new since w -/
def LsP (L : List Nat) (w : World) (e : Ending) (w' : World) : Prop :=
  ∃ A cap, e = .returned (.slice A L.length cap) ∧ Rd DI w' (fun k => w.heap.size ≤ k) A (ints L) ∧ L.length ≤ cap ∧ cap ≤ 9223372036854775807 ∧ Below w.heap.size w w'
def numOf : Value → Int | .int _ n => n | _ => 0
def bitsTo (m : Int) (k : Nat) : List Nat := (List.range k).filter (CP.bit m)
theorem bitsTo_succ (m : Int) (k : Nat) : bitsTo m (k + 1) = bitsTo m k ++ (if CP.bit m k then [k] else []) := by
  unfold bitsTo
  rw [List.range_succ, List.filter_append]
  congr 1
  cases h : CP.bit m k <;> simp [h]
theorem bitsTo_le (m : Int) (k : Nat) : (bitsTo m k).length ≤ k := by
  have := List.length_filter_le (CP.bit m) (List.range k)
  rw [List.length_range] at this
  exact this
theorem ints_length (L : List Nat) : (ints L).length = L.length := by unfold ints; rw [List.length_map]
set_option maxHeartbeats 1000000 in
theorem confList_any (m : Int) (w : World) : Calls Tryz.prog 9 #[.int .i64 m] w (LsP (CP.lst m) w) := by
  have HM : Hid (∀ X, Calls Tryz.prog 8 #[.int .i64 m] X (RetBelow (.bool (decide (CP.May m))) X)) := Lib.hid fun X => confMay_any m X
  by_cases h : CP.May m
  · have e : CP.lst m = bitsTo m 7 := by unfold CP.lst; rw [if_pos h]; rfl
    rw [e]
    rw [decide_eq_true h] at HM
    clear h e
    go_enter Tryz.func9, Tryz.ntmps9
    go_wp2_with (go_at_call 8; (with_reducible refine (HM.out _).mono ?_); rintro e w1 ⟨rfl, hb1⟩)
    have HB1 := Lib.hid hb1
    clear hb1
    go_loopw [3, 4, 8] (fun v3 v4 v8 wr => ∃ (k : Nat), v8 = .int .i64 (k : Nat) ∧ k ≤ 7 ∧ Hid (OwnS DI wr (fun q => w.heap.size ≤ q) v3 (ints (bitsTo m k))) ∧ Hid (Below w.heap.size w wr)) (fun _ _ v8 _ => 7 - (numOf v8).toNat)
    case atStart => exact ⟨0, rfl, by omega, Lib.hid (OwnS.nil DI w1 _ : OwnS DI w1 (fun q => w.heap.size ≤ q) (.slice none 0 0) (ints (bitsTo m 0))), HB1⟩
    case round =>
      obtain ⟨k, rfl, hk, ho, hf⟩ := hrel
      by_cases hk2 : (k : Int) < 7
      · have hk3 : k < 7 := by omega
        have hx : bits .and .i64 (m / 2 ^ k) 1 = m / ((2 ^ k : Nat) : Int) % 2 := by rw [i64_and1]; push_cast; rfl
        cases hbit : CP.bit m k with
        | true =>
          have hx2 : bits .and .i64 (m / 2 ^ k) 1 = 1 := by rw [hx]; unfold CP.bit at hbit; simpa using hbit
          clear hx
          have HB2 : Hid (Below w.heap.size w (wr.alloc (.cells #[.int .i64 (k : Nat)] 3))) := Lib.hid (hf.out.alloc hf.out.size _)
          have HO : Hid (OwnS DI (wr.alloc (.cells #[.int .i64 (k : Nat)] 3)) (fun q => w.heap.size ≤ q) u3 (ints (bitsTo m k))) := Lib.hid (ho.out.below ((Below.refl _ wr).alloc (Nat.le_refl _) _))
          have HR : Hid (Rd DI (wr.alloc (.cells #[.int .i64 (k : Nat)] 3)) (fun q => q = wr.heap.size) (some ⟨wr.heap.size, 0, none⟩) [(k : Int)]) := Lib.hid fun _ => ⟨_, 0, rfl, rfl, by simp, fun i x hx q u hu => by
            match i, q, hx, hu with
            | 0, 0, hx, hu => obtain rfl : (k : Int) = x := by simpa using hx
                              obtain rfl : Value.int .i64 (k : Nat) = u := by simpa [DI] using hu
                              simp
            | 0, q + 1, hx, hu => simp [DI] at hu
            | i + 1, _, hx, _ => simp at hx⟩
          have HS : Hid ((ints (bitsTo m k)).length + 1 ≤ 1000000) := Lib.hid (by have := bitsTo_le m k; rw [ints_length]; omega)
          have HU : Hid (ints (bitsTo m k) ++ [(k : Int)] = ints (bitsTo m (k + 1))) := Lib.hid (by rw [bitsTo_succ, hbit]; simp [ints])
          clear ho hf
          go_wp2_with (at_builtin; refine wp_appO DI rfl _ _ rfl (fun q => w.heap.size ≤ q) (fun q => q = wr.heap.size) _ (ints (bitsTo m k)) rfl HO.out (some ⟨wr.heap.size, 0, none⟩) 1 1 [(k : Int)] rfl (fun h => by cases h) HR.out rfl (Nat.le_refl _) HS.out ?_)
          intro v' w2 ho2 hf2 _
          rw [HU.out] at ho2
          have HO2 : Hid (OwnS DI w2 (fun q => w.heap.size ≤ q) v' (ints (bitsTo m (k + 1)))) := Lib.hid (ho2.mono fun q _ hq => hq.elim id fun hq => by have := HB2.out.size; omega)
          have HF2 : Hid (Below w.heap.size w w2) := Lib.hid (HB2.out.trans (hf2.below (HB2.out.size) fun q hq => hq))
          clear ho2 hf2 HO HR HB2 HS HU
          go_wp2_with fail
          go_roundw
          case rel => exact ⟨k + 1, rfl, by omega, HO2, HF2⟩
          case measure => simp [numOf]; omega
        | false =>
          have hx2 : bits .and .i64 (m / 2 ^ k) 1 = 0 := by
            rw [hx]
            unfold CP.bit at hbit
            rcases (show m / ((2 ^ k : Nat) : Int) % 2 = 0 ∨ m / ((2 ^ k : Nat) : Int) % 2 = 1 from by generalize m / ((2 ^ k : Nat) : Int) = z; omega) with h | h
            · exact h
            · rw [h] at hbit; cases hbit
          clear hx
          have HU : Hid (ints (bitsTo m k) = ints (bitsTo m (k + 1))) := Lib.hid (by rw [bitsTo_succ, hbit]; simp [ints])
          go_wp2_with fail
          go_roundw
          case rel => exact ⟨k + 1, rfl, by omega, Lib.hid (by rw [← HU.out]; exact ho.out), hf⟩
          case measure => simp [numOf]; omega
      · have hk3 : k = 7 := by omega
        subst hk3
        go_wp2_with fail
        obtain ⟨A, cap, rfl, h1, h2, h3, _⟩ := ho.out.form
        go_ret
        rw [ints_length] at *
        exact ⟨A, cap, rfl, h1, h2, h3, hf.out⟩
  · have e : CP.lst m = [] := by unfold CP.lst; rw [if_neg h]
    rw [e]
    rw [decide_eq_false h] at HM
    clear h e
    go_enter Tryz.func9, Tryz.ntmps9
    go_wp2_with (go_at_call 8; (with_reducible refine (HM.out _).mono ?_); rintro e w1 ⟨rfl, hb1⟩)
    go_ret
    exact ⟨none, 0, rfl, Rd.nil _ _ _ _, Nat.le_refl _, by omega, hb1⟩
end Go.Proofs.YtebacdegjmcnlaaGreat
/-
  Most and near, as the program tells them. No condition.
-/
namespace Go.Proofs.YtebacdegjmcnlaaGreat
set_option maxRecDepth 20000
open Go.RowKit
set_option linter.unusedVariables false
theorem cnt_le (m : Int) : (CP.lst m).length ≤ 7 := by
  unfold CP.lst
  split
  · exact Nat.le_trans (List.length_filter_le _ _) (by simp)
  · simp
theorem confMost_any (m v : Int) (w : World) : Calls Tryz.prog 10 #[.int .i64 m, .int .i64 v] w (RetBelow (.bool (CP.most m v)) w) := by
  have HM : Hid (∀ X, Calls Tryz.prog 8 #[.int .i64 m] X (RetBelow (.bool (decide (CP.May m))) X)) := Lib.hid fun X => confMay_any m X
  have HL1 : Hid (∀ X, Calls Tryz.prog 9 #[.int .i64 (CP.land m v)] X (LsP (CP.lst (CP.land m v)) X)) := Lib.hid fun X => confList_any _ X
  have HL2 : Hid (∀ X, Calls Tryz.prog 9 #[.int .i64 m] X (LsP (CP.lst m) X)) := Lib.hid fun X => confList_any _ X
  have hx := bits_land m v
  have c1 := cnt_le m
  have c2 := cnt_le (CP.land m v)
  have e : CP.most m v = (decide (CP.May m) && decide (2 * ((CP.lst (CP.land m v)).length : Int) > ((CP.lst m).length : Int))) := by
    unfold CP.most CP.cnt
    congr 1
    exact decide_eq_decide.2 ⟨fun h => by omega, fun h => by omega⟩
  rw [e]
  generalize CP.lst (CP.land m v) = L1 at *
  generalize CP.lst m = L2 at *
  generalize CP.land m v = lv at *
  clear e
  cases hM : decide (CP.May m) with
  | false =>
    rw [hM] at HM
    rw [Bool.false_and]
    clear hM
    go_enter Tryz.func10, Tryz.ntmps10
    go_wp2_with (go_at_call 8; (with_reducible refine (HM.out _).mono ?_); rintro e w1 ⟨rfl, hb1⟩)
    refine bodyPost_ret (results_tmp (fn := Tryz.f10) (t := 4) rfl _ _ _) rfl ?_
    exact ⟨rfl, hb1⟩
  | true =>
    rw [hM] at HM
    rw [Bool.true_and]
    clear hM
    go_enter Tryz.func10, Tryz.ntmps10
    go_wp2_with (first
      | (go_at_call 8; (with_reducible refine (HM.out _).mono ?_); rintro e w1 ⟨rfl, hb1⟩)
      | (go_at_call 9; (with_reducible refine (HL1.out _).mono ?_); rintro e w2 ⟨A2, cap2, rfl, _, _, _, hb2⟩)
      | (go_at_call 9; (with_reducible refine (HL2.out _).mono ?_); rintro e w3 ⟨A3, cap3, rfl, _, _, _, hb3⟩))
    refine bodyPost_ret (results_tmp (fn := Tryz.f10) (t := 4) rfl _ _ _) rfl ?_
    exact ⟨rfl, (hb1.trans (hb2.mono hb1.size)).trans (hb3.mono (by have := hb1.size; have := hb2.size; omega))⟩
theorem confNear_any (a b : Int) (w : World) : Calls Tryz.prog 12 #[.int .i64 a, .int .i64 b] w (RetBelow (.bool (CP.near a b)) w) := by
  have HA : Hid (∀ X, Calls Tryz.prog 8 #[.int .i64 a] X (RetBelow (.bool (decide (CP.May a))) X)) := Lib.hid fun X => confMay_any a X
  have HB : Hid (∀ X, Calls Tryz.prog 8 #[.int .i64 b] X (RetBelow (.bool (decide (CP.May b))) X)) := Lib.hid fun X => confMay_any b X
  have HL : Hid (∀ X, Calls Tryz.prog 9 #[.int .i64 (CP.lxor a b)] X (LsP (CP.lst (CP.lxor a b)) X)) := Lib.hid fun X => confList_any _ X
  have hx := bits_lxor a b
  have e : CP.near a b = (decide (CP.May a) && decide (CP.May b) && decide (((CP.lst (CP.lxor a b)).length : Int) = 1)) := by
    unfold CP.near CP.cnt
    congr 1
    exact decide_eq_decide.2 ⟨fun h => by omega, fun h => by omega⟩
  rw [e]
  generalize CP.lst (CP.lxor a b) = L at *
  generalize CP.lxor a b = lv at *
  clear e
  cases hA : decide (CP.May a) with
  | false =>
    rw [hA] at HA
    rw [Bool.false_and, Bool.false_and]
    clear hA
    go_enter Tryz.func12, Tryz.ntmps12
    go_wp2_with (go_at_call 8; (with_reducible refine (HA.out _).mono ?_); rintro e w1 ⟨rfl, hb1⟩)
    refine bodyPost_ret (results_tmp (fn := Tryz.f12) (t := 4) rfl _ _ _) rfl ?_
    exact ⟨rfl, hb1⟩
  | true =>
    rw [hA] at HA
    clear hA
    cases hB : decide (CP.May b) with
    | false =>
      rw [hB] at HB
      rw [Bool.true_and, Bool.false_and]
      clear hB
      go_enter Tryz.func12, Tryz.ntmps12
      go_wp2_with (first
        | (go_at_call 8; (with_reducible refine (HA.out _).mono ?_); rintro e w1 ⟨rfl, hb1⟩)
        | (go_at_call 8; (with_reducible refine (HB.out _).mono ?_); rintro e w2 ⟨rfl, hb2⟩))
      refine bodyPost_ret (results_tmp (fn := Tryz.f12) (t := 4) rfl _ _ _) rfl ?_
      exact ⟨rfl, hb1.trans (hb2.mono hb1.size)⟩
    | true =>
      rw [hB] at HB
      clear hB
      rw [Bool.true_and, Bool.true_and]
      go_enter Tryz.func12, Tryz.ntmps12
      go_wp2_with (first
        | (go_at_call 8; (with_reducible refine (HA.out _).mono ?_); rintro e w1 ⟨rfl, hb1⟩)
        | (go_at_call 8; (with_reducible refine (HB.out _).mono ?_); rintro e w2 ⟨rfl, hb2⟩)
        | (go_at_call 9; (with_reducible refine (HL.out _).mono ?_); rintro e w3 ⟨A3, cap3, rfl, _, _, _, hb3⟩))
      refine bodyPost_ret (results_tmp (fn := Tryz.f12) (t := 4) rfl _ _ _) rfl ?_
      exact ⟨rfl, (hb1.trans (hb2.mono hb1.size)).trans (hb3.mono (by have := hb1.size; have := hb2.size; omega))⟩
end Go.Proofs.YtebacdegjmcnlaaGreat
/-
  A slice of one's own, sorted by the library. Condition: it has at most 1000 numbers.
-/
namespace Go.Proofs.YtebacdegjmcnlaaGreat
set_option maxRecDepth 20000
open Go.RowKit Go.Sort Go.Shelf
set_option linter.unusedVariables false
theorem sort64_some (blk off cap : Nat) (zs : List Int) (w : World) (hH : Holds (Value.int .i64) w blk off zs.toArray) (hblk : blk < w.heap.size) (hsz : zs.length < 4611686018427387904) :
    Calls Tryz.prog 21 #[.slice (some ⟨blk, off, none⟩) zs.length cap] w fun e w' =>
      e = .returned (.tuple #[]) ∧ ∃ n os, w' = grow (putRow (Value.int .i64) (Sort.ahead w n) blk off (CP.srt zs).toArray) os := AnyG.slices_Sort_int Tryz.sort64 blk off cap zs w hH hblk hsz
theorem sort64_nil (p : Option Addr) (cap : Nat) (w : World) :
    Calls Tryz.prog 21 #[.slice p 0 cap] w fun e w' => e = .returned (.tuple #[]) ∧ w' = w := AnyG.slices_Sort_int_none Tryz.sort64 p cap w
theorem DL_cell {x u : Value} {z : Int} {q : Nat} (h : (DL.C z)[q]? = some u) : q = 0 ∧ u = .int .i64 z := by
  match q, h with
  | 0, h => exact ⟨rfl, by simpa [DL] using h.symm⟩
  | q + 1, h => simp [DL] at h
theorem sort_any {w : World} {S : Nat → Prop} {v : Value} {zs : List Int} (ho : OwnS DL w S v zs) (hl : zs.length ≤ 1000) :
    ∃ A cap, v = .slice A zs.length cap ∧ zs.length ≤ cap ∧ cap ≤ 9223372036854775807 ∧ Calls Tryz.prog 21 #[.slice A zs.length cap] w fun e w' => e = .returned (.tuple #[]) ∧ Rd DL w' S A (CP.srt zs) ∧ Fr S w w' := by
  rcases ho with ⟨rfl, rfl⟩ | ⟨g, off, cap, cur, rfl, hs, hg, hc, hm, hz, ht⟩
  · refine ⟨none, 0, rfl, Nat.le_refl _, by omega, (sort64_nil none 0 w).mono ?_⟩
    rintro e w' ⟨rfl, rfl⟩
    exact ⟨rfl, by rw [show CP.srt [] = [] by simp [CP.srt]]; exact Rd.nil _ _ _ _, Fr.refl _ _⟩
  · have hlt : g < w.heap.size := (Array.getElem?_eq_some_iff.1 hg).1
    have hH : Holds (Value.int .i64) w g off zs.toArray := by
      intro j hj
      have hj' : j < zs.length := by simpa using hj
      refine ⟨?_, by simp [World.frozen?, hg]⟩
      rw [cell_of_row w g _ cur DL.e _ hg]
      have := row_cells ht _ _ (flat_get DL zs j zs[j] (List.getElem?_eq_getElem hj') 0 (.int .i64 zs[j]) rfl)
      rw [show j * DL.m + 0 = j from by simp [DL]] at this
      rw [this]
      simp [hj']
    refine ⟨_, cap, rfl, hc, by simp only [maxLen] at hm; omega, (sort64_some g off cap zs w hH hlt (by omega)).mono ?_⟩
    rintro e w' ⟨rfl, n, os, rfl⟩
    refine ⟨rfl, fun _ => ⟨g, off, rfl, hs, by simp; omega, fun i x hx q u hu => ?_⟩, ⟨rfl, rfl, rfl, by simp, fun k hk hn => ?_⟩⟩
    · obtain ⟨rfl, rfl⟩ := DL_cell (x := u) hu
      have hi : i < (CP.srt zs).length := (List.getElem?_eq_some_iff.1 hx).1
      have hi2 : i < zs.length := by rw [CP.srt_len] at hi; exact hi
      rw [show off + i * DL.m + 0 = off + i from by simp [DL], cell?_grow _ _ _ (by simpa using hlt), cell?_putRow (Value.int .i64) (Sort.ahead w n) g off zs.toArray (CP.srt zs).toArray (fun j hj => hH j hj) (by rw [List.size_toArray, List.size_toArray, CP.srt_len]) i (by rw [List.size_toArray]; exact hi)]
      have : (CP.srt zs)[i] = x := by rw [List.getElem?_eq_getElem hi] at hx; exact Option.some.inj hx
      simp [hi, this]
    · have hne : g ≠ k := by rintro rfl; exact hn hs
      rw [heap_grow_old _ _ (by simpa using hk)]
      simp [putRow, mapBlock, Sort.ahead, Array.getElem?_modify, hne]
end Go.Proofs.YtebacdegjmcnlaaGreat
/-
  The number that most members have, as the program finds it. Condition: the slice has at most 1000 numbers.
-/
namespace Go.Proofs.YtebacdegjmcnlaaGreat
set_option maxRecDepth 20000
open Go.RowKit
set_option linter.unusedVariables false
theorem confAt_any {w : World} {H : Nat → Prop} {A : Option Addr} {n c : Nat} {L : List Int} (hr : Rd DL w H A L) (hn : L.length = n) (i : Nat) (hi : i ≤ 1000) : Calls Tryz.prog 20 #[.slice A n c, .int .i64 (i : Nat)] w (RetBelow (.int .i64 (CP.atL L i)) w) := by
  by_cases h : n ≤ i
  · have e : CP.atL L i = 0 := by unfold CP.atL; rw [List.getD_eq_getElem?_getD, List.getElem?_eq_none (by omega)]; rfl
    rw [e]
    have g1 : decide (n ≤ i) = true := decide_eq_true h
    clear hr hn e
    go_enter Tryz.func20, Tryz.ntmps20
    go_wp2_with fail
    go_ret
    exact ⟨rfl, Below.refl _ _⟩
  · have hx : L[i]? = some (CP.atL L i) := by unfold CP.atL; rw [List.getD_eq_getElem?_getD, List.getElem?_eq_getElem (by omega)]; rfl
    obtain ⟨b, off, rfl, _, _, h4⟩ := hr.at_ hx
    have c1 : w.cell? ⟨b, off + i, none⟩ = some (.int .i64 (CP.atL L i)) := by
      have := h4 0 _ rfl
      rwa [show off + i * DL.m + 0 = off + i by simp [DL]] at this
    have g1 : decide (n ≤ i) = false := decide_eq_false h
    have g2 : (i : Int) < n := by omega
    have g3 : i < n := by omega
    clear hr h4 hx
    generalize CP.atL L i = x at *
    go_enter Tryz.func20, Tryz.ntmps20
    go_wp2_with fail
    go_ret
    exact ⟨rfl, Below.refl _ _⟩
theorem vals_len (m : Int) (L : List Int) : (CP.vals m L).length ≤ 7 := by unfold CP.vals; rw [List.length_map]; exact cnt_le m
theorem take_snoc {α : Type} (l : List α) (k : Nat) (h : k < l.length) : l.take (k + 1) = l.take k ++ [l[k]] := by rw [List.take_succ_eq_append_getElem h]
theorem rd_one {w : World} (x : Int) (o : TypeId) : Rd DL (w.alloc (.cells #[.int .i64 x] o)) (fun q => q = w.heap.size) (some ⟨w.heap.size, 0, none⟩) [x] := fun _ => ⟨_, 0, rfl, rfl, by simp, fun i y hy q u hu => by
  obtain ⟨rfl, rfl⟩ := DL_cell (x := u) hu
  match i, hy with
  | 0, hy => obtain rfl : x = y := by simpa using hy
             simp
  | i + 1, hy => simp at hy⟩
set_option maxHeartbeats 1000000 in
theorem confReached_any {w : World} {H : Nat → Prop} {A : Option Addr} {n c : Nat} {L : List Int} (m : Int) (hr : Rd DL w H A L) (hn : L.length = n) : Calls Tryz.prog 11 #[.int .i64 m, .slice A n c] w (RetBelow (.int .i64 (CP.reached m L)) w) := by
  have HL : Hid (Calls Tryz.prog 9 #[.int .i64 m] w (LsP (CP.lst m) w)) := Lib.hid (confList_any _ w)
  have HA : Hid (∀ X, Below w.heap.size w X → ∀ i : Nat, i ≤ 1000 → Calls Tryz.prog 20 #[.slice A n c, .int .i64 (i : Nat)] X (RetBelow (.int .i64 (CP.atL L i)) X)) := Lib.hid fun X hX i hi => confAt_any (hr.below hX) hn i hi
  have h7 := cnt_le m
  have HV : Hid (CP.vals m L = (CP.lst m).map (CP.atL L)) := Lib.hid rfl
  have HLT : Hid (∀ i ∈ CP.lst m, i ≤ 1000) := Lib.hid fun i hi => by
    unfold CP.lst at hi
    split at hi
    · have := CP.R_lt (List.mem_filter.1 hi).1; omega
    · simp at hi
  have HRE : Hid (CP.reached m L = if (CP.vals m L).length = 0 then 0 else max 0 ((CP.srt (CP.vals m L)).getD (((CP.vals m L).length - 1) / 2) 0)) := Lib.hid rfl
  generalize CP.reached m L = re at *
  generalize CP.vals m L = vs at *
  generalize CP.lst m = ls at *
  clear hr
  go_enter Tryz.func11, Tryz.ntmps11
  go_wp2_with (go_at_call 9; (with_reducible refine HL.out.mono ?_); rintro e w1 ⟨A2, cap2, rfl, hr2, hc2, hm2, hb1⟩)
  have HR2 := Lib.hid hr2
  have HB1 := Lib.hid hb1
  clear hr2 hb1
  go_loopw [5, 11] (fun v5 v11 wr => ∃ (k : Nat), v11 = .int .i64 (k : Nat) ∧ k ≤ ls.length ∧ Hid (OwnS DL wr (fun q => w1.heap.size ≤ q) v5 (vs.take k)) ∧ Hid (Below w1.heap.size w1 wr)) (fun _ v11 _ => ls.length - (numOf v11).toNat)
  case atStart => exact ⟨0, rfl, by omega, Lib.hid (OwnS.nil DL w1 _ : OwnS DL w1 (fun q => w1.heap.size ≤ q) (.slice none 0 0) (vs.take 0)), Lib.hid (Below.refl _ _)⟩
  case round =>
    obtain ⟨k, rfl, hk, ho, hf⟩ := hrel
    by_cases hk2 : (k : Int) < ls.length
    · have hk3 : k < ls.length := by omega
      have hx : (ints ls)[k]? = some (ls[k] : Int) := by unfold ints; rw [List.getElem?_map, List.getElem?_eq_getElem hk3]; rfl
      obtain ⟨b, off, rfl, _, hlt, h4⟩ := HR2.out.at_ hx
      have c1 : wr.cell? ⟨b, off + k, none⟩ = some (.int .i64 (ls[k] : Nat)) := by
        have := h4 0 _ rfl
        rw [show off + k * DI.m + 0 = off + k by simp [DI]] at this
        rw [← this]
        exact hf.out.cell (p := ⟨b, off + k, none⟩) hlt
      have HC : Hid (∀ X, Below w.heap.size w X → Calls Tryz.prog 20 #[.slice A n c, .int .i64 (ls[k] : Nat)] X (RetBelow (.int .i64 (CP.atL L ls[k])) X)) := Lib.hid fun X hX => HA.out X hX _ (HLT.out _ (List.getElem_mem hk3))
      have HU : Hid (vs.take k ++ [CP.atL L ls[k]] = vs.take (k + 1)) := Lib.hid (by rw [take_snoc vs k (by rw [HV.out, List.length_map]; exact hk3)]; simp [HV.out])
      have HN : Hid ((vs.take k).length + 1 ≤ 1000000) := Lib.hid (by rw [List.length_take]; omega)
      have HW : Hid (Below w.heap.size w wr) := Lib.hid (HB1.out.trans (hf.out.mono HB1.out.size))
      generalize CP.atL L ls[k] = x at *
      generalize ls[k] = i at *
      clear hx h4 
      go_wp2_with (first
        | (at_builtin; refine wp_appO DL rfl _ _ rfl (fun q => w1.heap.size ≤ q) (fun q => q = w2.heap.size) _ (vs.take k) rfl HO2.out (some ⟨w2.heap.size, 0, none⟩) 1 1 [x] rfl (fun h => by cases h) HR3.out rfl (Nat.le_refl _) HN.out ?_)
        | (go_at_call 20; (with_reducible refine (HC.out _ HW.out).mono ?_); rintro e w2 ⟨rfl, hb2⟩
           have HR3 := Lib.hid (rd_one (w := w2) x 2)
           have HF3 : Hid (Below w1.heap.size w1 (w2.alloc (.cells #[.int .i64 x] 2))) := Lib.hid ((hf.out.trans (hb2.mono hf.out.size)).alloc (by have := hf.out.size; have := hb2.size; omega) _)
           have HO2 : Hid (OwnS DL (w2.alloc (.cells #[.int .i64 x] 2)) (fun q => w1.heap.size ≤ q) u5 (vs.take k)) := Lib.hid (ho.out.below (hb2.alloc hb2.size _))
           clear hb2))
      intro v' w3 ho3 hf3 _
      rw [HU.out] at ho3
      have HO3 : Hid (OwnS DL w3 (fun q => w1.heap.size ≤ q) v' (vs.take (k + 1))) := Lib.hid (ho3.mono fun q _ hq => hq.elim id fun hq => by have := HF3.out.size; omega)
      have HF4 : Hid (Below w1.heap.size w1 w3) := Lib.hid (HF3.out.trans (hf3.below HF3.out.size fun q hq => hq))
      clear ho3 hf3 HO2 HR3 HF3 HU HN ho hf
      go_wp2_with fail
      go_roundw
      case rel => exact ⟨k + 1, rfl, by omega, HO3, HF4⟩
      case measure => simp [numOf]; omega
    · have hk3 : k = ls.length := by omega
      subst hk3
      have ho2 := ho.out
      have hvl : vs.length = ls.length := by rw [HV.out, List.length_map]
      rw [← hvl, List.take_length] at ho2
      obtain ⟨A3, cap3, rfl, h3, h4, hsort⟩ := sort_any ho2 (by omega)
      have HS := Lib.hid hsort
      have HF : Hid (Below w.heap.size w wr) := Lib.hid (HB1.out.trans (hf.out.mono HB1.out.size))
      clear hsort ho2 ho
      rw [hvl] at HS h3 HRE
      by_cases h0 : ls.length = 0
      · have g0 : decide (ls.length = 0) = true := decide_eq_true h0
        have e : re = 0 := by rw [HRE.out, if_pos h0]
        subst e
        clear HRE
        go_wp2_with fail
        go_ret
        exact ⟨rfl, HF.out⟩
      · have g0 : decide (ls.length = 0) = false := decide_eq_false h0
        have e : re = max 0 ((CP.srt vs).getD ((ls.length - 1) / 2) 0) := by rw [HRE.out, if_neg h0]
        obtain ⟨j, hj⟩ : ∃ j, j = (ls.length - 1) / 2 := ⟨_, rfl⟩
        have hjl : j < (CP.srt vs).length := by rw [CP.srt_len]; omega
        have hx : (CP.srt vs)[j]? = some (CP.srt vs)[j] := List.getElem?_eq_getElem hjl
        rw [← hj, List.getD_eq_getElem?_getD, hx, Option.getD_some] at e
        have HX := Lib.hid hx
        have q1 : IntKind.i64.wrap ((ls.length : Int) - 1) = ((ls.length - 1 : Nat) : Int) := by rw [IntKind.wrap_i64]; omega
        have q2 : Int.tdiv ((ls.length - 1 : Nat) : Int) 2 = (j : Int) := by rw [hj, Int.tdiv_eq_ediv_of_nonneg (by omega)]; omega
        have q3 : j < ls.length := by omega
        have q4 : IntKind.i64.wrap (j : Int) = (j : Int) := by rw [IntKind.wrap_i64]; omega
        generalize (CP.srt vs)[j] = y at *
        subst e
        clear HRE hj hx
        go_wp2_with (go_at_call 21; (with_reducible refine HS.out.mono ?_); rintro e w4 ⟨rfl, hr4, hf4⟩
                     obtain ⟨b4, off4, rfl, _, _, hc4⟩ := hr4.at_ HX.out
                     have c4 : w4.cell? ⟨b4, off4 + j, none⟩ = some (.int .i64 y) := by
                       have := hc4 0 _ rfl
                       rwa [show off4 + j * DL.m + 0 = off4 + j by simp [DL]] at this)
        go_ret
        exact ⟨rfl, HF.out.trans (hf4.below HF.out.size fun q hq => by have := HB1.out.size; omega)⟩
end Go.Proofs.YtebacdegjmcnlaaGreat
