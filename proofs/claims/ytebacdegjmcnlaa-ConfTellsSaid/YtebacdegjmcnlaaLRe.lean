/-
  The law of the number that most members have, its call walked. No condition.
-/
import Derived.Test.YtebacdegjmcnlaaLMe
namespace Go.Proofs.Ytebacdegjmcnlaa
set_option maxRecDepth 20000
open Go.RowKit
set_option linter.unusedVariables false
def ownC (L : List Int) (k : Nat) : List Int := (List.range 7).map fun i => if i < k then CP.atL L i else 0
theorem ownC_len (L : List Int) (k : Nat) : (ownC L k).length = 7 := by simp [ownC]
theorem ownC_at (L : List Int) (k i : Nat) (h : i < 7) : (ownC L k)[i]? = some (if i < k then CP.atL L i else 0) := by
  simp [ownC, h]
theorem ownC_set (L : List Int) (k : Nat) (h : k < 7) : (ownC L k).set k (CP.atL L k) = ownC L (k + 1) := by
  apply List.ext_getElem?
  intro i
  rw [List.getElem?_set]
  by_cases hi : i < 7
  · rw [ownC_at _ _ _ hi, ownC_at _ _ _ hi, ownC_len]
    by_cases e : k = i
    · subst e; simp [h]
    · rw [if_neg e]
      congr 1
      by_cases q : i < k
      · rw [if_pos q, if_pos (by omega)]
      · rw [if_neg q, if_neg (by omega)]
  · rw [List.getElem?_eq_none (by rw [ownC_len]; omega), List.getElem?_eq_none (by rw [ownC_len]; omega), if_neg (by omega)]
theorem ownC_same (L : List Int) (k : Nat) (h : CP.atL L k = 0) : ownC L k = ownC L (k + 1) := by
  unfold ownC
  apply List.map_congr_left
  intro i _
  by_cases q : i < k
  · rw [if_pos q, if_pos (by omega)]
  · rw [if_neg q]
    by_cases e : i = k
    · subst e; rw [if_pos (by omega), h]
    · rw [if_neg (by omega)]
def rowL (l : List Int) : Array Value := (l.map (Value.int .i64)).toArray
theorem rowL_set (l : List Int) (j : Nat) (x : Int) : (rowL l).setIfInBounds j (.int .i64 x) = rowL (l.set j x) := by
  simp [rowL, List.map_set]
theorem rowL_cell {w : World} {g j : Nat} {l : List Int} {x : Int} (h : w.heap[g]? = some (.cells (rowL l) 2 (0, 0))) (hx : l[j]? = some x) : w.cell? ⟨g, j, none⟩ = some (.int .i64 x) := by
  rw [Lib.cell_of_heap h]
  simp [rowL, hx]
theorem rowL_rd {w : World} {g : Nat} {l : List Int} (h : w.heap[g]? = some (.cells (rowL l) 2 (0, 0))) : Rd DL w (fun q => q = g) (some ⟨g, 0, none⟩) l := fun _ => ⟨g, 0, rfl, rfl, (Array.getElem?_eq_some_iff.1 h).1, fun i y hy q u hu => by
  obtain ⟨rfl, rfl⟩ := DL_cell (x := u) hu
  rw [show 0 + i * DL.m + 0 = i by simp [DL]]
  exact rowL_cell h hy⟩
theorem bit_pow (k i : Nat) (hk : k < 7) (hi : i < 7) : CP.bit ((2 : Int) ^ k) i = (i == k) := by
  have h : ∀ a b : Fin 7, CP.bit ((2 : Int) ^ a.val) b.val = (b.val == a.val) := by decide +kernel
  exact h ⟨k, hk⟩ ⟨i, hi⟩
theorem atL_own (L : List Int) (i : Nat) (h : i < 7) : CP.atL (ownC L 7) i = CP.atL L i := by
  show (ownC L 7).getD i 0 = _
  rw [List.getD_eq_getElem?_getD, ownC_at _ _ _ h, if_pos h]
  rfl
theorem mk7 (L : List Int) (w : World) : (Instr.makeSlice 22 (.int .i64 7) (.int .i64 7)).run Try.prog w = .ok (.slice (some ⟨w.heap.size, 0, none⟩) 7 7) (w.alloc (.cells (rowL (ownC L 0)) 2)) := by
  obtain ⟨i5, hi5, hz0, hz1, hz2⟩ := info_parts DL.info
  have := run_make (P := Try.prog) w 22 2 i5 _ Try.underlying22 hi5 hz0 .i64 .i64 (7 : Int) (7 : Int) (by omega) (by omega) (by rw [hz2]; decide) (by omega)
  rw [hz1] at this
  have e : madeCells DL.z.cells 7 = rowL (ownC L 0) := by
    apply Array.ext'
    rw [show DL.z.cells = #[.int .i64 0] from rfl, toList_madeCells_one]
    simp [rowL, ownC, List.replicate, List.range, List.range.loop]
  rw [show Int.toNat 7 * DL.m = 7 from rfl, e] at this
  exact this
theorem heap_row {w : World} {g k : Nat} {L : List Int} (h : w.heap[g]? = some (.cells (rowL (ownC L k)) 2 (0, 0))) (hk : k < 7) : (w.setCell ⟨g, k, none⟩ (.int .i64 (CP.atL L k))).heap[g]? = some (.cells (rowL (ownC L (k + 1))) 2 (0, 0)) := by
  have := heap_setCell_same w g k _ 2 (.int .i64 (CP.atL L k)) h
  rw [rowL_set, ownC_set L k hk] at this
  exact this
/-- the numbers that a majority of one has: bits so far -/
def Bits (L : List Int) (r : Int) (k : Nat) (h a : Int) : Prop := ∀ i, i < 7 → CP.bit h i = (decide (i < k) && decide (r ≤ CP.atL L i)) ∧ CP.bit a i = (decide (i < k) && decide (r < CP.atL L i))
theorem bits_zero (L : List Int) (r : Int) : Bits L r 0 0 0 := fun i _ => by
  have : CP.bit 0 i = false := by simp [CP.bit]
  rw [this]
  simp
theorem bits_step {L : List Int} {r : Int} {k : Nat} {h a : Int} (hb : Bits L r k h a) (hk : k < 7) :
    Bits L r (k + 1) (if r ≤ CP.atL L k then CP.lor h ((2 : Int) ^ k) else h) (if r < CP.atL L k then CP.lor a ((2 : Int) ^ k) else a) := fun i hi => by
  obtain ⟨h1, h2⟩ := hb i hi
  have hp := bit_pow k i hk hi
  constructor
  · split
    · rename_i q
      rw [CP.bit_lor _ _ _ hi, h1, hp]
      by_cases e : i = k
      · subst e; simp [q]
      · have : (i < k + 1) = (i < k) := by rw [eq_iff_iff]; omega
        simp [e, this]
    · rename_i q
      rw [h1]
      by_cases e : i = k
      · subst e; simp [q]
      · have : (i < k + 1) = (i < k) := by rw [eq_iff_iff]; omega
        simp [this]
  · split
    · rename_i q
      rw [CP.bit_lor _ _ _ hi, h2, hp]
      by_cases e : i = k
      · subst e; simp [q]
      · have : (i < k + 1) = (i < k) := by rw [eq_iff_iff]; omega
        simp [e, this]
    · rename_i q
      rw [h2]
      by_cases e : i = k
      · subst e; simp [q]
      · have : (i < k + 1) = (i < k) := by rw [eq_iff_iff]; omega
        simp [this]
set_option maxHeartbeats 4000000 in
theorem law_reached {A : Option Addr} {n c : Nat} {L : List Int} (m who more : Int) (w : World) (_ : -9223372036854775808 ≤ m) (_ : m ≤ 9223372036854775807) (hr : Rd DL w (fun k => k < w.heap.size) A L) (hn : L.length = n) (hwl : 0 ≤ who) (hwh : who ≤ 255) (hml : 0 ≤ more) (hmh : more ≤ 65535) :
    Calls Try.prog 5 #[.int .i64 m, .slice A n c, .int .u8 who, .int .u16 more] w (RetBelow (.bool true) w) := by
  have HK := Lib.hid awake_any
  have HY := Lib.hid (confMay_any m)
  have HR := Lib.hid hr
  have HN := Lib.hid hn
  have B : Hid (Below w.heap.size w w) := Lib.hid (Below.refl _ _)
  by_cases h100 : (100 : Int) < n
  · have g0 : decide ((100 : Int) < n) = true := decide_eq_true h100
    clear hr hn
    go_enter Try.func5, Try.ntmps5
    go_wp2_with (go_at_call 8; (with_reducible refine (HK.out _).mono ?_); rintro e w1 ⟨rfl, hb⟩; have B := Lib.hid (B.out.trans (hb.mono B.out.size)); clear hb)
    refine bodyPost_ret (results_tmp (fn := Try.f5) (t := 8) rfl _ _ _) rfl ?_
    exact ⟨rfl, B.out⟩
  have g0 : decide ((100 : Int) < n) = false := decide_eq_false h100
  by_cases hm : CP.May m
  rotate_left
  · rw [decide_eq_false hm] at HY
    have HRE : Hid (∀ X, Below w.heap.size w X → Calls Try.prog 18 #[.int .i64 m, .slice A n c] X (RetBelow (.int .i64 0) X)) := Lib.hid fun X hX => by
      have := confReached_any (c := c) m (hr.below hX) hn
      rwa [CP.reached_not hm] at this
    clear hr hn
    go_enter Try.func5, Try.ntmps5
    go_wp2_with (first
      | (go_at_call 18; (with_reducible refine (HRE.out _ B.out).mono ?_); rintro e w1 ⟨rfl, hb⟩; have B := Lib.hid (B.out.trans (hb.mono B.out.size)); clear hb)
      | (go_at_call 9; (with_reducible refine (HY.out _).mono ?_); rintro e w1 ⟨rfl, hb⟩; have B := Lib.hid (B.out.trans (hb.mono B.out.size)); clear hb)
      | (go_at_call 8; (with_reducible refine (HK.out _).mono ?_); rintro e w1 ⟨rfl, hb⟩; have B := Lib.hid (B.out.trans (hb.mono B.out.size)); clear hb))
    refine bodyPost_ret (results_tmp (fn := Try.f5) (t := 8) rfl _ _ _) rfl ?_
    exact ⟨rfl, B.out⟩
  rw [decide_eq_true hm] at HY
  have HMy := Lib.hid hm
  clear hr hn hm
  have hmk := mk7 L
  go_enter Try.func5, Try.ntmps5
  go_wp2_with (first
    | (go_at_call 9; (with_reducible refine (HY.out _).mono ?_); rintro e W ⟨rfl, hb⟩; have B := Lib.hid (B.out.trans (hb.mono B.out.size)); clear hb)
    | (go_at_call 8; (with_reducible refine (HK.out _).mono ?_); rintro e w1 ⟨rfl, hb⟩; have B := Lib.hid (B.out.trans (hb.mono B.out.size)); clear hb))
  obtain ⟨g, hg⟩ : ∃ g, g = W.heap.size := ⟨_, rfl⟩
  rw [← hg]
  have B0 := Lib.hid (B.out.alloc B.out.size (.cells (rowL (ownC L 0)) 2))
  have H0 := Lib.hid (heap_alloc_new W (.cells (rowL (ownC L 0)) 2))
  rw [← hg] at H0
  have HG : Hid (w.heap.size ≤ g) := Lib.hid (by rw [hg]; exact B.out.size)
  generalize W.alloc (.cells (rowL (ownC L 0)) 2) = W0 at *
  clear hmk hg
  go_loopw [37] (fun v37 wr => ∃ (k : Nat), v37 = .int .i64 (k : Nat) ∧ k ≤ 7 ∧ Hid (Below w.heap.size w wr) ∧ Hid (wr.heap[g]? = some (.cells (rowL (ownC L k)) 2 (0, 0))) ∧ Hid (∀ i, i < k → 0 ≤ CP.atL L i ∧ CP.atL L i ≤ 4611686018427387904)) (fun v37 _ => 7 - (numOf v37).toNat)
  case atStart => exact ⟨0, rfl, by omega, B0, H0, Lib.hid fun i hi => absurd hi (Nat.not_lt_zero _)⟩
  case round =>
    obtain ⟨k, rfl, hk, hf, hrow, hall⟩ := hrel
    by_cases hk2 : (k : Int) < 7
    · have hk3 : k < 7 := by omega
      have HF : Hid (0 ≤ CP.atL L k → CP.atL L k ≤ 4611686018427387904 → ∀ i, i < k + 1 → 0 ≤ CP.atL L i ∧ CP.atL L i ≤ 4611686018427387904) := Lib.hid fun h1 h2 i hi => by
        by_cases e : i = k
        · subst e; exact ⟨h1, h2⟩
        · exact hall.out i (by omega)
      have f1 : wr.frozen? ⟨g, k, none⟩ = false := Lib.frozen_of_heap hrow.out _
      have c0 := rowL_cell hrow.out (ownC_at L k k hk3)
      rw [if_neg (Nat.lt_irrefl k)] at c0
      by_cases hkn : (k : Int) < n
      · have g1 : decide ((k : Int) < n) = true := decide_eq_true hkn
        have hkn3 : k < n := by omega
        have hx : L[k]? = some (CP.atL L k) := by unfold CP.atL; rw [List.getD_eq_getElem?_getD, List.getElem?_eq_getElem (by have := HN.out; omega)]; rfl
        obtain ⟨b, off, rfl, _, hlt, h4⟩ := HR.out.at_ hx
        have c1 : wr.cell? ⟨b, off + k, none⟩ = some (.int .i64 (CP.atL L k)) := by
          have := h4 0 _ rfl
          rw [show off + k * DL.m + 0 = off + k by simp [DL]] at this
          rw [← this]
          exact hf.out.cell (p := ⟨b, _, none⟩) hlt
        have H2 := Lib.hid (heap_row hrow.out hk3)
        have c2 := rowL_cell H2.out (ownC_at L (k + 1) k hk3)
        rw [if_pos (Nat.lt_succ_self k)] at c2
        have B2 := Lib.hid (hf.out.setCell (p := ⟨g, k, none⟩) HG.out (.int .i64 (CP.atL L k)))
        clear hx h4 hall
        generalize CP.atL L k = x at *
        by_cases hx0 : x < 0
        · have q0 : decide (x < 0) = true := decide_eq_true hx0
          go_wp2_with fail
          refine bodyPost_ret (results_tmp (fn := Try.f5) (t := 8) rfl _ _ _) rfl ?_
          exact ⟨rfl, B2.out⟩
        · have q0 : decide (x < 0) = false := decide_eq_false hx0
          by_cases hx1 : 4611686018427387904 < x
          · have q1 : decide (4611686018427387904 < x) = true := decide_eq_true hx1
            go_wp2_with fail
            refine bodyPost_ret (results_tmp (fn := Try.f5) (t := 8) rfl _ _ _) rfl ?_
            exact ⟨rfl, B2.out⟩
          · have q1 : decide (4611686018427387904 < x) = false := decide_eq_false hx1
            have HF2 := Lib.hid (HF.out (by omega) (by omega))
            go_wp2_with fail
            go_roundw
            case rel => exact ⟨k + 1, rfl, by omega, Lib.hid B2.out, H2, HF2⟩
            case measure => simp [numOf]; omega
      · have g1 : decide ((k : Int) < n) = false := decide_eq_false hkn
        have hx : CP.atL L k = 0 := by unfold CP.atL; rw [List.getD_eq_getElem?_getD, List.getElem?_eq_none (by have := HN.out; omega)]; rfl
        have H2 : Hid (wr.heap[g]? = some (.cells (rowL (ownC L (k + 1))) 2 (0, 0))) := Lib.hid (by rw [← ownC_same L k hx]; exact hrow.out)
        have HF2 := Lib.hid (HF.out (by omega) (by omega))
        clear hall HF
        go_wp2_with fail
        go_roundw
        case rel => exact ⟨k + 1, rfl, by omega, hf, H2, HF2⟩
        case measure => simp [numOf]; omega
    · have hk3 : k = 7 := by omega
      subst hk3
      have HO := Lib.hid (rowL_rd hrow.out)
      have HRC : Hid (∀ X, Below wr.heap.size wr X → Calls Try.prog 18 #[.int .i64 m, .slice (some ⟨g, 0, none⟩) 7 7] X (RetBelow (.int .i64 (CP.reached m (ownC L 7))) X)) := Lib.hid fun X hX => confReached_any (c := 7) m (HO.out.below hX) (ownC_len L 7)
      obtain ⟨r, hrr⟩ : ∃ r, r = CP.reached m (ownC L 7) := ⟨_, rfl⟩
      rw [← hrr] at HRC
      have HRR := Lib.hid hrr
      clear hrr
      go_wp2_with (go_at_call 18; (with_reducible refine (HRC.out _ (Below.refl _ _)).mono ?_); rintro e w3 ⟨rfl, hb⟩; have B3 := Lib.hid (hf.out.trans (hb.mono hf.out.size)); have H3 := Lib.hid ((hb.block g (Array.getElem?_eq_some_iff.1 hrow.out).1).trans hrow.out); clear hb)
      go_loopw [12, 13, 69] (fun v12 v13 v69 wr => ∃ (k : Nat) (h a : Int), v12 = .int .i64 h ∧ v13 = .int .i64 a ∧ v69 = .int .i64 (k : Nat) ∧ k ≤ 7 ∧ Hid (Below w.heap.size w wr) ∧ Hid (wr.heap[g]? = some (.cells (rowL (ownC L 7)) 2 (0, 0))) ∧ Hid (Bits L r k h a)) (fun _ _ v69 _ => 7 - (numOf v69).toNat)
      case atStart => exact ⟨0, 0, 0, rfl, rfl, rfl, by omega, B3, H3, Lib.hid (bits_zero L r)⟩
      case round =>
        have HALL := hall
        clear HO hrow B3 H3 hall
        obtain ⟨k, h, a, rfl, rfl, rfl, hk, hf3, hrow3, hbit⟩ := hrel
        by_cases hk2 : (k : Int) < 7
        · have hk3 : k < 7 := by omega
          have c0 := rowL_cell hrow3.out (ownC_at L 7 k hk3)
          rw [if_pos hk3] at c0
          have HST := Lib.hid (bits_step hbit.out hk3)
          have e1 := bits_lor h ((2 : Int) ^ k)
          have e2 := bits_lor a ((2 : Int) ^ k)
          have e3 : IntKind.i64.wrap ((2 : Int) ^ k) = (2 : Int) ^ k := by
            have : ∀ q : Fin 7, IntKind.i64.wrap ((2 : Int) ^ q.val) = (2 : Int) ^ q.val := by decide +kernel
            exact this ⟨k, hk3⟩
          clear hbit
          generalize CP.atL L k = x at *
          by_cases hx0 : r ≤ x
          · have q0 : decide (r ≤ x) = true := decide_eq_true hx0
            by_cases hx1 : r < x
            · have q1 : decide (r < x) = true := decide_eq_true hx1
              rw [if_pos hx0, if_pos hx1] at HST
              go_wp2_with fail
              exact ⟨⟨k + 1, _, _, rfl, rfl, rfl, by omega, hf3, hrow3, HST⟩, by simp [numOf]; omega⟩
            · have q1 : decide (r < x) = false := decide_eq_false hx1
              rw [if_pos hx0, if_neg hx1] at HST
              go_wp2_with fail
              exact ⟨⟨k + 1, _, _, rfl, rfl, rfl, by omega, hf3, hrow3, HST⟩, by simp [numOf]; omega⟩
          · have q0 : decide (r ≤ x) = false := decide_eq_false hx0
            have hx1 : ¬ r < x := by omega
            have q1 : decide (r < x) = false := decide_eq_false hx1
            rw [if_neg hx0, if_neg hx1] at HST
            go_wp2_with fail
            exact ⟨⟨k + 1, _, _, rfl, rfl, rfl, by omega, hf3, hrow3, HST⟩, by simp [numOf]; omega⟩
        · have hk3 : k = 7 := by omega
          subst hk3
          have hm := HMy.out
          have ht : ∀ i, i < 7 → decide (i < 7) = true := fun i hi => decide_eq_true hi
          have P1 : CP.most m h = true := CP.reached_most hm (ownC L 7) (fun i hi => by rw [atL_own L i hi]; exact (HALL.out i hi).1) (fun i hi => by rw [(hbit.out i hi).1, ht i hi, Bool.true_and, atL_own L i hi, ← HRR.out])
          have P2 : CP.most m a = false := CP.reached_above hm (ownC L 7) (fun i hi => by rw [(hbit.out i hi).2, ht i hi, Bool.true_and, atL_own L i hi, ← HRR.out])
          have HT1 := Lib.hid (confMost_any m h)
          have HT2 := Lib.hid (confMost_any m a)
          rw [P1] at HT1
          rw [P2] at HT2
          clear P1 P2 hbit ht
          obtain ⟨j, hj⟩ : ∃ j : Nat, (j : Int) = who % 7 := ⟨(who % 7).toNat, by omega⟩
          have hj7 : j < 7 := by omega
          have e1 : Int.tmod who 7 = (j : Int) := by rw [Int.tmod_eq_emod_of_nonneg hwl, hj]
          have e2 : IntKind.i64.wrap who = who := by rw [IntKind.wrap_i64]; omega
          have e3 : IntKind.i64.wrap more = more := by rw [IntKind.wrap_i64]; omega
          have e4 : IntKind.i64.wrap (j : Int) = (j : Int) := by rw [IntKind.wrap_i64]; omega
          have c0 := rowL_cell hrow3.out (ownC_at L 7 j hj7)
          rw [if_pos hj7] at c0
          have hb2 := HALL.out j hj7
          have e5 : IntKind.i64.wrap (CP.atL L j + more) = CP.atL L j + more := by rw [IntKind.wrap_i64]; omega
          have f1 : wr.frozen? ⟨g, j, none⟩ = false := Lib.frozen_of_heap hrow3.out _
          have HMONO : Hid (r ≤ CP.reached m ((ownC L 7).set j (CP.atL L j + more))) := Lib.hid (by
            rw [HRR.out]
            refine CP.reached_mono hm _ _ fun i hi => ?_
            rw [atL_own L i hi]
            show _ ≤ ((ownC L 7).set j (CP.atL L j + more)).getD i 0
            rw [List.getD_eq_getElem?_getD, List.getElem?_set, ownC_len]
            by_cases e : j = i
            · subst e; rw [if_pos rfl, if_pos hj7, Option.getD_some]; omega
            · rw [if_neg e, ownC_at _ _ _ hi, if_pos hi, Option.getD_some]; exact Int.le_refl _)
          have hlen : ((ownC L 7).set j (CP.atL L j + more)).length = 7 := by rw [List.length_set, ownC_len]
          obtain ⟨L', hl'⟩ : ∃ L', (ownC L 7).set j (CP.atL L j + more) = L' := ⟨_, rfl⟩
          rw [hl'] at HMONO hlen
          have HL' := Lib.hid hl'
          have HLEN := Lib.hid hlen
          clear hl' hlen hj
          go_wp2_with (first
            | (go_at_call 14; (with_reducible refine (HT2.out _).mono ?_); rintro e w5 ⟨rfl, hb⟩; have BX := Lib.hid (BX.out.trans (hb.mono BX.out.size)); have HX := Lib.hid ((hb.block g (Array.getElem?_eq_some_iff.1 HX.out).1).trans HX.out); have cX := rowL_cell HX.out (ownC_at L 7 j hj7); rw [if_pos hj7] at cX; have fX : w5.frozen? ⟨g, j, none⟩ = false := Lib.frozen_of_heap HX.out _; clear hb)
            | (go_at_call 14; (with_reducible refine (HT1.out _).mono ?_); rintro e w4 ⟨rfl, hb⟩; have BX := Lib.hid (hf3.out.trans (hb.mono hf3.out.size)); have HX := Lib.hid ((hb.block g (Array.getElem?_eq_some_iff.1 hrow3.out).1).trans hrow3.out); clear hb))
          have H9 : (w5.setCell ⟨g, j, none⟩ (.int .i64 (CP.atL L j + more))).heap[g]? = some (.cells (rowL L') 2 (0, 0)) := by
            have := heap_setCell_same w5 g j _ 2 (.int .i64 (CP.atL L j + more)) HX.out
            rw [rowL_set, HL'.out] at this
            exact this
          have B9 := Lib.hid (BX.out.setCell (p := ⟨g, j, none⟩) HG.out (.int .i64 (CP.atL L j + more)))
          have HC9 := confReached_any (c := 7) m (rowL_rd H9) HLEN.out
          refine HC9.mono ?_
          rintro e w6 ⟨rfl, hb⟩
          have gm : decide (r ≤ CP.reached m L') = true := decide_eq_true HMONO.out
          go_wp2_with fail
          refine bodyPost_ret (results_tmp (fn := Try.f5) (t := 8) rfl _ _ _) rfl ?_
          exact ⟨rfl, B9.out.trans (hb.mono B9.out.size)⟩
end Go.Proofs.Ytebacdegjmcnlaa
