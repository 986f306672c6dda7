import Derived.Test.YtjpnkecfoealoaaVLess
import Derived.Test.YtjpnkecfoealoaaVLNone
namespace Go.Proofs.Ytjpnkecfoealoaa.Vc
set_option maxRecDepth 20000
open Go.RowKit
set_option linter.unusedVariables false
def plusV (minus : Bool) (a b : List Nat) : Nat := if minus then Pd.val a - Pd.val b else Pd.val a + Pd.val b
/-- the answer is a row of digits worth v, of at most N + 1 places -/
def RowPost (v N : Nat) (w : World) (e : Ending) (w' : World) : Prop := ∃ A n cap D, e = .returned (.slice A n cap) ∧ Row w' A n cap D ∧ Pd.val D = v ∧ n ≤ N + 1 ∧ Below w.heap.size w w'
def PlusRel (w : World) (b0 : Nat) (minus : Bool) (a b : List Nat) (N : Nat) (out c i : Value) (wr : World) : Prop :=
  ∃ (k cc : Nat) (O : List Nat), k ≤ N + 1 ∧ i = .int .i64 (k : Int) ∧ c = .int .i64 (cc : Int) ∧ OwnD wr b0 out O ∧ Pd.Pinv minus a b O cc k ∧ Below w.heap.size w wr ∧ b0 ≤ wr.heap.size
def CutRel (A : Option Addr) (cap : Nat) (O : List Nat) (out : Value) : Prop := ∃ m : Nat, m ≤ O.length ∧ out = .slice A m cap ∧ Pd.val (O.take m) = Pd.val O
def sliceLen : Value → Nat
  | .slice _ n _ => n
  | _ => 0
set_option maxHeartbeats 1000000 in
theorem plus_add_n (a b : List Nat) (A A' : Option Addr) (n cap n' cap' : Nat) (w : World) (ra : Row w A n cap a) (rb : Row w A' n' cap' b) (hc : n' ≤ n) (hN : n ≤ 99999) :
    Calls Try.prog 48 #[.slice A n cap, .slice A' n' cap', .bool false] w (RowPost (plusV false a b) n w) := by
  have RA := Lib.hid ra
  have RB := Lib.hid rb
  have ha := Lib.hid (show a.length ≤ n by rw [ra.len]; omega)
  have hb := Lib.hid (show b.length ≤ n by rw [rb.len]; omega)
  have hs1 := ra.small
  have hs2 := rb.small
  clear ra rb
  have hd : decide (n < n') = false := by simp; omega
  have OO := Lib.hid (OwnD.new w)
  have B0 := Lib.hid ((Below.refl _ w).alloc (Nat.le_refl _) (.cells #[] 3))
  go_enter Try.func48, Try.ntmps48
  go_wp2_with fail
  go_loopw [8, 9, 10] (PlusRel w w.heap.size false a b n) (fun _ _ i _ => n + 1 - (intOf i).toNat)
  case atStart => exact ⟨0, 0, [], by omega, rfl, rfl, OO.out, Pd.Pinv.zero _ _ _, B0.out, by simp⟩
  case round =>
    obtain ⟨k, cc, O, hk, rfl, rfl, own, hinv, bel, hbase⟩ := hrel
    have BE := Lib.hid bel
    have BA := Lib.hid hbase
    clear bel hbase
    by_cases hlt : k ≤ n
    · have hlt' : (k : Int) ≤ n := by omega
      have hdk : decide (k ≤ n) = true := by simpa using hlt
      have D1 := Lib.hid ((RA.out.on BE.out).digit k (by omega))
      have D2 := Lib.hid ((RB.out.on BE.out).digit k (by omega))
      have hx := Pd.dg_lt RA.out.dig k
      have hy := Pd.dg_lt RB.out.dig k
      have hcc := hinv.2.2.1
      have OL := Lib.hid (show O.length + 1 ≤ 1000000 by rw [hinv.1]; omega)
      generalize hX : Pd.dg a k = x at *
      generalize hY : Pd.dg b k = y at *
      have hX' := Lib.hid hX
      have hY' := Lib.hid hY
      by_cases hs : 10 ≤ (x : Int) + y + cc
      · obtain ⟨u, hu⟩ : ∃ u : Nat, (x : Int) + y + cc - 10 = u := ⟨((x : Int) + y + cc - 10).toNat, by omega⟩
        have V1 := Lib.hid (digs_new wr [u])
        have OW := Lib.hid (own.below ((Below.refl _ wr).alloc (Nat.le_refl _) (.cells (dC [u]).toArray 3)))
        have P1 := Lib.hid (hinv.plus u 1 (by omega) (by omega) (by rw [hX, hY]; omega))
        clear own hinv hX hY
        go_wp2_with (first | (go_at_call 57; (with_reducible refine D1.out.mono ?_); rintro e w' ⟨rfl, rfl⟩) | (go_at_call 57; (with_reducible refine D2.out.mono ?_); rintro e w' ⟨rfl, rfl⟩) | (at_builtin; (refine wp_appD rfl (.tmp 53) (.tmp 55) rfl w.heap.size _ O rfl OW.out (some ⟨wr.heap.size, 0, none⟩) 1 1 _ [u] rfl (fun h => by cases h) V1.out rfl (by omega) OL.out (by have := BA.out; simp; omega) ?_); intro v3 w3 own3 hb3; have O3 := Lib.hid own3; have B3 := Lib.hid hb3; clear own3 hb3))
        go_roundw
        case rel => exact ⟨k + 1, 1, O ++ [u], by omega, by go_num, rfl, O3.out, P1.out, (below_box BE.out _).trans B3.out, by have h8 := B3.out.size; rw [World.size_alloc] at h8; have := BA.out; omega⟩
        case measure => simp [intOf] <;> omega
      · obtain ⟨u, hu⟩ : ∃ u : Nat, (x : Int) + y + cc = u := ⟨((x : Int) + y + cc).toNat, by omega⟩
        have V1 := Lib.hid (digs_new wr [u])
        have OW := Lib.hid (own.below ((Below.refl _ wr).alloc (Nat.le_refl _) (.cells (dC [u]).toArray 3)))
        have P1 := Lib.hid (hinv.plus u 0 (by omega) (by omega) (by rw [hX, hY]; omega))
        clear own hinv hX hY
        have hu2 : (u : Int) < 10 := by omega
        have h11 : u < 10 := by omega
        go_wp2_with (first | (go_at_call 57; (with_reducible refine D1.out.mono ?_); rintro e w' ⟨rfl, rfl⟩) | (go_at_call 57; (with_reducible refine D2.out.mono ?_); rintro e w' ⟨rfl, rfl⟩) | (at_builtin; (refine wp_appD rfl (.tmp 53) (.tmp 55) rfl w.heap.size _ O rfl OW.out (some ⟨wr.heap.size, 0, none⟩) 1 1 _ [u] rfl (fun h => by cases h) V1.out rfl (by omega) OL.out (by have := BA.out; simp; omega) ?_); intro v3 w3 own3 hb3; have O3 := Lib.hid own3; have B3 := Lib.hid hb3; clear own3 hb3))
        go_roundw
        case rel => exact ⟨k + 1, 0, O ++ [u], by omega, by go_num, rfl, O3.out, P1.out, (below_box BE.out _).trans B3.out, by have h8 := B3.out.size; rw [World.size_alloc] at h8; have := BA.out; omega⟩
        case measure => simp [intOf] <;> omega
    · obtain rfl : k = n + 1 := by omega
      have hv := Lib.hid (hinv.end_plus ha.out hb.out RA.out.dig RB.out.dig)
      have hd9 : decide (n + 1 ≤ n) = false := by simp
      have hd8 : decide (((n + 1 : Nat) : Int) ≤ n) = false := by simp; omega
      have hlen := hinv.1
      have hdig := Lib.hid hinv.2.1
      obtain ⟨A2, cap2, rfl, hds, hcp, hcm, hnn⟩ := own.form
      rw [hlen]
      have HD := Lib.hid hds
      have HL := Lib.hid hlen
      have HC := Lib.hid hcp
      have HNN := Lib.hid hnn
      clear own hinv hds hlen hnn
      go_wp2_with fail
      go_loop [8] (CutRel A2 cap2 O) (fun v => sliceLen v)
      case atStart => exact ⟨n + 1, by rw [HL.out]; exact Nat.le_refl _, rfl, by rw [List.take_of_length_le (by rw [HL.out]; exact Nat.le_refl _)]⟩
      case round =>
        obtain ⟨m, hm, rfl, hval⟩ := hrel
        have HV := Lib.hid hval
        have hm2 : m ≤ n + 1 := by rw [← HL.out]; exact hm
        have hmc : m ≤ cap2 := by have h9 := HC.out; rw [HL.out] at h9; omega
        have HR := Lib.hid (show RowPost (plusV false a b) n w (.returned (.slice A2 m cap2)) wr from
          ⟨A2, m, cap2, O.take m, rfl, ⟨HD.out.take m, by rw [List.length_take]; omega, hmc, hcm, HNN.out, Pd.Dig_take hdig.out m, by omega⟩, by rw [hval, hv.out]; rfl, hm2, BE.out⟩)
        clear hval
        cases m with
        | zero =>
          go_wp2_with fail
          go_ret
          exact HR.out
        | succ j =>
          have hjl : j < O.length := by omega
          obtain ⟨b, off, rfl, hb1, hb2⟩ := HD.out (fun e => by rw [e] at hjl; simp at hjl)
          have hcell := hb2 j O[j] (List.getElem?_eq_getElem hjl)
          have hcut := Lib.hid (show O[j] = 0 → CutRel (some ⟨b, off, none⟩) cap2 O (.slice (some ⟨b, off, none⟩) j cap2) from fun h => ⟨j, by omega, rfl, by
            have h1 := Pd.val_cut (D := O.take (j + 1)) (k := j) (by rw [List.length_take]; omega) (by rw [Pd.dg_at (by rw [List.length_take]; omega), List.getElem_take]; exact h)
            rw [List.take_take, Nat.min_eq_left (by omega)] at h1
            rw [h1, HV.out]⟩)
          generalize O[j] = u at *
          have hj1 : (j : Int) < cap2 := by omega
          clear hb2
          by_cases hu : u = 0
          · have E := Lib.hid (hcut.out hu)
            subst hu
            clear hcut
            go_wp2_with fail
            go_round
            case rel => exact E.out
            case measure => simp [sliceLen]
          · have hu1 : ((u : Int) == 0) = false := by rw [beq_eq_false_iff_ne]; omega
            have hu2 : (u == 0) = false := by rw [beq_eq_false_iff_ne]; exact hu
            clear hcut hu
            go_wp2_with fail
            go_ret
            exact HR.out
set_option maxHeartbeats 1000000 in
theorem plus_add_m (a b : List Nat) (A A' : Option Addr) (n cap n' cap' : Nat) (w : World) (ra : Row w A n cap a) (rb : Row w A' n' cap' b) (hc : n < n') (hN : n' ≤ 99999) :
    Calls Try.prog 48 #[.slice A n cap, .slice A' n' cap', .bool false] w (RowPost (plusV false a b) n' w) := by
  have RA := Lib.hid ra
  have RB := Lib.hid rb
  have ha := Lib.hid (show a.length ≤ n' by rw [ra.len]; omega)
  have hb := Lib.hid (show b.length ≤ n' by rw [rb.len]; omega)
  have hs1 := ra.small
  have hs2 := rb.small
  clear ra rb
  have hd : decide (n < n') = true := by simp; omega
  have OO := Lib.hid (OwnD.new w)
  have B0 := Lib.hid ((Below.refl _ w).alloc (Nat.le_refl _) (.cells #[] 3))
  go_enter Try.func48, Try.ntmps48
  go_wp2_with fail
  go_loopw [8, 9, 10] (PlusRel w w.heap.size false a b n') (fun _ _ i _ => n' + 1 - (intOf i).toNat)
  case atStart => exact ⟨0, 0, [], by omega, rfl, rfl, OO.out, Pd.Pinv.zero _ _ _, B0.out, by simp⟩
  case round =>
    obtain ⟨k, cc, O, hk, rfl, rfl, own, hinv, bel, hbase⟩ := hrel
    have BE := Lib.hid bel
    have BA := Lib.hid hbase
    clear bel hbase
    by_cases hlt : k ≤ n'
    · have hlt' : (k : Int) ≤ n' := by omega
      have hdk : decide (k ≤ n') = true := by simpa using hlt
      have D1 := Lib.hid ((RA.out.on BE.out).digit k (by omega))
      have D2 := Lib.hid ((RB.out.on BE.out).digit k (by omega))
      have hx := Pd.dg_lt RA.out.dig k
      have hy := Pd.dg_lt RB.out.dig k
      have hcc := hinv.2.2.1
      have OL := Lib.hid (show O.length + 1 ≤ 1000000 by rw [hinv.1]; omega)
      generalize hX : Pd.dg a k = x at *
      generalize hY : Pd.dg b k = y at *
      have hX' := Lib.hid hX
      have hY' := Lib.hid hY
      by_cases hs : 10 ≤ (x : Int) + y + cc
      · obtain ⟨u, hu⟩ : ∃ u : Nat, (x : Int) + y + cc - 10 = u := ⟨((x : Int) + y + cc - 10).toNat, by omega⟩
        have V1 := Lib.hid (digs_new wr [u])
        have OW := Lib.hid (own.below ((Below.refl _ wr).alloc (Nat.le_refl _) (.cells (dC [u]).toArray 3)))
        have P1 := Lib.hid (hinv.plus u 1 (by omega) (by omega) (by rw [hX, hY]; omega))
        clear own hinv hX hY
        go_wp2_with (first | (go_at_call 57; (with_reducible refine D1.out.mono ?_); rintro e w' ⟨rfl, rfl⟩) | (go_at_call 57; (with_reducible refine D2.out.mono ?_); rintro e w' ⟨rfl, rfl⟩) | (at_builtin; (refine wp_appD rfl (.tmp 53) (.tmp 55) rfl w.heap.size _ O rfl OW.out (some ⟨wr.heap.size, 0, none⟩) 1 1 _ [u] rfl (fun h => by cases h) V1.out rfl (by omega) OL.out (by have := BA.out; simp; omega) ?_); intro v3 w3 own3 hb3; have O3 := Lib.hid own3; have B3 := Lib.hid hb3; clear own3 hb3))
        go_roundw
        case rel => exact ⟨k + 1, 1, O ++ [u], by omega, by go_num, rfl, O3.out, P1.out, (below_box BE.out _).trans B3.out, by have h8 := B3.out.size; rw [World.size_alloc] at h8; have := BA.out; omega⟩
        case measure => simp [intOf] <;> omega
      · obtain ⟨u, hu⟩ : ∃ u : Nat, (x : Int) + y + cc = u := ⟨((x : Int) + y + cc).toNat, by omega⟩
        have V1 := Lib.hid (digs_new wr [u])
        have OW := Lib.hid (own.below ((Below.refl _ wr).alloc (Nat.le_refl _) (.cells (dC [u]).toArray 3)))
        have P1 := Lib.hid (hinv.plus u 0 (by omega) (by omega) (by rw [hX, hY]; omega))
        clear own hinv hX hY
        have hu2 : (u : Int) < 10 := by omega
        have h11 : u < 10 := by omega
        go_wp2_with (first | (go_at_call 57; (with_reducible refine D1.out.mono ?_); rintro e w' ⟨rfl, rfl⟩) | (go_at_call 57; (with_reducible refine D2.out.mono ?_); rintro e w' ⟨rfl, rfl⟩) | (at_builtin; (refine wp_appD rfl (.tmp 53) (.tmp 55) rfl w.heap.size _ O rfl OW.out (some ⟨wr.heap.size, 0, none⟩) 1 1 _ [u] rfl (fun h => by cases h) V1.out rfl (by omega) OL.out (by have := BA.out; simp; omega) ?_); intro v3 w3 own3 hb3; have O3 := Lib.hid own3; have B3 := Lib.hid hb3; clear own3 hb3))
        go_roundw
        case rel => exact ⟨k + 1, 0, O ++ [u], by omega, by go_num, rfl, O3.out, P1.out, (below_box BE.out _).trans B3.out, by have h8 := B3.out.size; rw [World.size_alloc] at h8; have := BA.out; omega⟩
        case measure => simp [intOf] <;> omega
    · obtain rfl : k = n' + 1 := by omega
      have hv := Lib.hid (hinv.end_plus ha.out hb.out RA.out.dig RB.out.dig)
      have hd9 : decide (n' + 1 ≤ n') = false := by simp
      have hd8 : decide (((n' + 1 : Nat) : Int) ≤ n') = false := by simp; omega
      have hlen := hinv.1
      have hdig := Lib.hid hinv.2.1
      obtain ⟨A2, cap2, rfl, hds, hcp, hcm, hnn⟩ := own.form
      rw [hlen]
      have HD := Lib.hid hds
      have HL := Lib.hid hlen
      have HC := Lib.hid hcp
      have HNN := Lib.hid hnn
      clear own hinv hds hlen hnn
      go_wp2_with fail
      go_loop [8] (CutRel A2 cap2 O) (fun v => sliceLen v)
      case atStart => exact ⟨n' + 1, by rw [HL.out]; exact Nat.le_refl _, rfl, by rw [List.take_of_length_le (by rw [HL.out]; exact Nat.le_refl _)]⟩
      case round =>
        obtain ⟨m, hm, rfl, hval⟩ := hrel
        have HV := Lib.hid hval
        have hm2 : m ≤ n' + 1 := by rw [← HL.out]; exact hm
        have hmc : m ≤ cap2 := by have h9 := HC.out; rw [HL.out] at h9; omega
        have HR := Lib.hid (show RowPost (plusV false a b) n' w (.returned (.slice A2 m cap2)) wr from
          ⟨A2, m, cap2, O.take m, rfl, ⟨HD.out.take m, by rw [List.length_take]; omega, hmc, hcm, HNN.out, Pd.Dig_take hdig.out m, by omega⟩, by rw [hval, hv.out]; rfl, hm2, BE.out⟩)
        clear hval
        cases m with
        | zero =>
          go_wp2_with fail
          go_ret
          exact HR.out
        | succ j =>
          have hjl : j < O.length := by omega
          obtain ⟨b, off, rfl, hb1, hb2⟩ := HD.out (fun e => by rw [e] at hjl; simp at hjl)
          have hcell := hb2 j O[j] (List.getElem?_eq_getElem hjl)
          have hcut := Lib.hid (show O[j] = 0 → CutRel (some ⟨b, off, none⟩) cap2 O (.slice (some ⟨b, off, none⟩) j cap2) from fun h => ⟨j, by omega, rfl, by
            have h1 := Pd.val_cut (D := O.take (j + 1)) (k := j) (by rw [List.length_take]; omega) (by rw [Pd.dg_at (by rw [List.length_take]; omega), List.getElem_take]; exact h)
            rw [List.take_take, Nat.min_eq_left (by omega)] at h1
            rw [h1, HV.out]⟩)
          generalize O[j] = u at *
          have hj1 : (j : Int) < cap2 := by omega
          clear hb2
          by_cases hu : u = 0
          · have E := Lib.hid (hcut.out hu)
            subst hu
            clear hcut
            go_wp2_with fail
            go_round
            case rel => exact E.out
            case measure => simp [sliceLen]
          · have hu1 : ((u : Int) == 0) = false := by rw [beq_eq_false_iff_ne]; omega
            have hu2 : (u == 0) = false := by rw [beq_eq_false_iff_ne]; exact hu
            clear hcut hu
            go_wp2_with fail
            go_ret
            exact HR.out
set_option maxHeartbeats 1000000 in
theorem plus_sub_n (a b : List Nat) (A A' : Option Addr) (n cap n' cap' : Nat) (w : World) (ra : Row w A n cap a) (rb : Row w A' n' cap' b) (hc : n' ≤ n) (hN : n ≤ 99999) (hle : Pd.val b ≤ Pd.val a) :
    Calls Try.prog 48 #[.slice A n cap, .slice A' n' cap', .bool true] w (RowPost (plusV true a b) n w) := by
  have RA := Lib.hid ra
  have RB := Lib.hid rb
  have ha := Lib.hid (show a.length ≤ n by rw [ra.len]; omega)
  have hb := Lib.hid (show b.length ≤ n by rw [rb.len]; omega)
  have hs1 := ra.small
  have hs2 := rb.small
  clear ra rb
  have hd : decide (n < n') = false := by simp; omega
  have OO := Lib.hid (OwnD.new w)
  have B0 := Lib.hid ((Below.refl _ w).alloc (Nat.le_refl _) (.cells #[] 3))
  go_enter Try.func48, Try.ntmps48
  go_wp2_with fail
  go_loopw [8, 9, 10] (PlusRel w w.heap.size true a b n) (fun _ _ i _ => n + 1 - (intOf i).toNat)
  case atStart => exact ⟨0, 0, [], by omega, rfl, rfl, OO.out, Pd.Pinv.zero _ _ _, B0.out, by simp⟩
  case round =>
    obtain ⟨k, cc, O, hk, rfl, rfl, own, hinv, bel, hbase⟩ := hrel
    have BE := Lib.hid bel
    have BA := Lib.hid hbase
    clear bel hbase
    by_cases hlt : k ≤ n
    · have hlt' : (k : Int) ≤ n := by omega
      have hdk : decide (k ≤ n) = true := by simpa using hlt
      have D1 := Lib.hid ((RA.out.on BE.out).digit k (by omega))
      have D2 := Lib.hid ((RB.out.on BE.out).digit k (by omega))
      have hx := Pd.dg_lt RA.out.dig k
      have hy := Pd.dg_lt RB.out.dig k
      have hcc := hinv.2.2.1
      have OL := Lib.hid (show O.length + 1 ≤ 1000000 by rw [hinv.1]; omega)
      generalize hX : Pd.dg a k = x at *
      generalize hY : Pd.dg b k = y at *
      have hX' := Lib.hid hX
      have hY' := Lib.hid hY
      by_cases hs : (x : Int) - y - cc < 0
      · obtain ⟨u, hu⟩ : ∃ u : Nat, (x : Int) - y - cc + 10 = u := ⟨((x : Int) - y - cc + 10).toNat, by omega⟩
        have V1 := Lib.hid (digs_new wr [u])
        have OW := Lib.hid (own.below ((Below.refl _ wr).alloc (Nat.le_refl _) (.cells (dC [u]).toArray 3)))
        have P1 := Lib.hid (hinv.minus u 1 (by omega) (by omega) (by rw [hX, hY]; omega))
        clear own hinv hX hY
        have hu2 : (u : Int) < 10 := by omega
        have h10 : decide ((u : Int) < 10) = true := by simpa using hu2
        have h11 : u < 10 := by omega
        go_wp2_with (first | (go_at_call 57; (with_reducible refine D1.out.mono ?_); rintro e w' ⟨rfl, rfl⟩) | (go_at_call 57; (with_reducible refine D2.out.mono ?_); rintro e w' ⟨rfl, rfl⟩) | (at_builtin; (refine wp_appD rfl (.tmp 53) (.tmp 55) rfl w.heap.size _ O rfl OW.out (some ⟨wr.heap.size, 0, none⟩) 1 1 _ [u] rfl (fun h => by cases h) V1.out rfl (by omega) OL.out (by have := BA.out; simp; omega) ?_); intro v3 w3 own3 hb3; have O3 := Lib.hid own3; have B3 := Lib.hid hb3; clear own3 hb3))
        go_roundw
        case rel => exact ⟨k + 1, 1, O ++ [u], by omega, by go_num, rfl, O3.out, P1.out, (below_box BE.out _).trans B3.out, by have h8 := B3.out.size; rw [World.size_alloc] at h8; have := BA.out; omega⟩
        case measure => simp [intOf] <;> omega
      · obtain ⟨u, hu⟩ : ∃ u : Nat, (x : Int) - y - cc = u := ⟨((x : Int) - y - cc).toNat, by omega⟩
        have V1 := Lib.hid (digs_new wr [u])
        have OW := Lib.hid (own.below ((Below.refl _ wr).alloc (Nat.le_refl _) (.cells (dC [u]).toArray 3)))
        have P1 := Lib.hid (hinv.minus u 0 (by omega) (by omega) (by rw [hX, hY]; omega))
        clear own hinv hX hY
        have hu2 : (u : Int) < 10 := by omega
        have h11 : u < 10 := by omega
        go_wp2_with (first | (go_at_call 57; (with_reducible refine D1.out.mono ?_); rintro e w' ⟨rfl, rfl⟩) | (go_at_call 57; (with_reducible refine D2.out.mono ?_); rintro e w' ⟨rfl, rfl⟩) | (at_builtin; (refine wp_appD rfl (.tmp 53) (.tmp 55) rfl w.heap.size _ O rfl OW.out (some ⟨wr.heap.size, 0, none⟩) 1 1 _ [u] rfl (fun h => by cases h) V1.out rfl (by omega) OL.out (by have := BA.out; simp; omega) ?_); intro v3 w3 own3 hb3; have O3 := Lib.hid own3; have B3 := Lib.hid hb3; clear own3 hb3))
        go_roundw
        case rel => exact ⟨k + 1, 0, O ++ [u], by omega, by go_num, rfl, O3.out, P1.out, (below_box BE.out _).trans B3.out, by have h8 := B3.out.size; rw [World.size_alloc] at h8; have := BA.out; omega⟩
        case measure => simp [intOf] <;> omega
    · obtain rfl : k = n + 1 := by omega
      have hv := Lib.hid (hinv.end_minus ha.out hb.out hle)
      have hd9 : decide (n + 1 ≤ n) = false := by simp
      have hd8 : decide (((n + 1 : Nat) : Int) ≤ n) = false := by simp; omega
      have hlen := hinv.1
      have hdig := Lib.hid hinv.2.1
      obtain ⟨A2, cap2, rfl, hds, hcp, hcm, hnn⟩ := own.form
      rw [hlen]
      have HD := Lib.hid hds
      have HL := Lib.hid hlen
      have HC := Lib.hid hcp
      have HNN := Lib.hid hnn
      clear own hinv hds hlen hnn
      go_wp2_with fail
      go_loop [8] (CutRel A2 cap2 O) (fun v => sliceLen v)
      case atStart => exact ⟨n + 1, by rw [HL.out]; exact Nat.le_refl _, rfl, by rw [List.take_of_length_le (by rw [HL.out]; exact Nat.le_refl _)]⟩
      case round =>
        obtain ⟨m, hm, rfl, hval⟩ := hrel
        have HV := Lib.hid hval
        have hm2 : m ≤ n + 1 := by rw [← HL.out]; exact hm
        have hmc : m ≤ cap2 := by have h9 := HC.out; rw [HL.out] at h9; omega
        have HR := Lib.hid (show RowPost (plusV true a b) n w (.returned (.slice A2 m cap2)) wr from
          ⟨A2, m, cap2, O.take m, rfl, ⟨HD.out.take m, by rw [List.length_take]; omega, hmc, hcm, HNN.out, Pd.Dig_take hdig.out m, by omega⟩, by rw [hval, hv.out]; rfl, hm2, BE.out⟩)
        clear hval
        cases m with
        | zero =>
          go_wp2_with fail
          go_ret
          exact HR.out
        | succ j =>
          have hjl : j < O.length := by omega
          obtain ⟨b, off, rfl, hb1, hb2⟩ := HD.out (fun e => by rw [e] at hjl; simp at hjl)
          have hcell := hb2 j O[j] (List.getElem?_eq_getElem hjl)
          have hcut := Lib.hid (show O[j] = 0 → CutRel (some ⟨b, off, none⟩) cap2 O (.slice (some ⟨b, off, none⟩) j cap2) from fun h => ⟨j, by omega, rfl, by
            have h1 := Pd.val_cut (D := O.take (j + 1)) (k := j) (by rw [List.length_take]; omega) (by rw [Pd.dg_at (by rw [List.length_take]; omega), List.getElem_take]; exact h)
            rw [List.take_take, Nat.min_eq_left (by omega)] at h1
            rw [h1, HV.out]⟩)
          generalize O[j] = u at *
          have hj1 : (j : Int) < cap2 := by omega
          clear hb2
          by_cases hu : u = 0
          · have E := Lib.hid (hcut.out hu)
            subst hu
            clear hcut
            go_wp2_with fail
            go_round
            case rel => exact E.out
            case measure => simp [sliceLen]
          · have hu1 : ((u : Int) == 0) = false := by rw [beq_eq_false_iff_ne]; omega
            have hu2 : (u == 0) = false := by rw [beq_eq_false_iff_ne]; exact hu
            clear hcut hu
            go_wp2_with fail
            go_ret
            exact HR.out
set_option maxHeartbeats 1000000 in
theorem plus_sub_m (a b : List Nat) (A A' : Option Addr) (n cap n' cap' : Nat) (w : World) (ra : Row w A n cap a) (rb : Row w A' n' cap' b) (hc : n < n') (hN : n' ≤ 99999) (hle : Pd.val b ≤ Pd.val a) :
    Calls Try.prog 48 #[.slice A n cap, .slice A' n' cap', .bool true] w (RowPost (plusV true a b) n' w) := by
  have RA := Lib.hid ra
  have RB := Lib.hid rb
  have ha := Lib.hid (show a.length ≤ n' by rw [ra.len]; omega)
  have hb := Lib.hid (show b.length ≤ n' by rw [rb.len]; omega)
  have hs1 := ra.small
  have hs2 := rb.small
  clear ra rb
  have hd : decide (n < n') = true := by simp; omega
  have OO := Lib.hid (OwnD.new w)
  have B0 := Lib.hid ((Below.refl _ w).alloc (Nat.le_refl _) (.cells #[] 3))
  go_enter Try.func48, Try.ntmps48
  go_wp2_with fail
  go_loopw [8, 9, 10] (PlusRel w w.heap.size true a b n') (fun _ _ i _ => n' + 1 - (intOf i).toNat)
  case atStart => exact ⟨0, 0, [], by omega, rfl, rfl, OO.out, Pd.Pinv.zero _ _ _, B0.out, by simp⟩
  case round =>
    obtain ⟨k, cc, O, hk, rfl, rfl, own, hinv, bel, hbase⟩ := hrel
    have BE := Lib.hid bel
    have BA := Lib.hid hbase
    clear bel hbase
    by_cases hlt : k ≤ n'
    · have hlt' : (k : Int) ≤ n' := by omega
      have hdk : decide (k ≤ n') = true := by simpa using hlt
      have D1 := Lib.hid ((RA.out.on BE.out).digit k (by omega))
      have D2 := Lib.hid ((RB.out.on BE.out).digit k (by omega))
      have hx := Pd.dg_lt RA.out.dig k
      have hy := Pd.dg_lt RB.out.dig k
      have hcc := hinv.2.2.1
      have OL := Lib.hid (show O.length + 1 ≤ 1000000 by rw [hinv.1]; omega)
      generalize hX : Pd.dg a k = x at *
      generalize hY : Pd.dg b k = y at *
      have hX' := Lib.hid hX
      have hY' := Lib.hid hY
      by_cases hs : (x : Int) - y - cc < 0
      · obtain ⟨u, hu⟩ : ∃ u : Nat, (x : Int) - y - cc + 10 = u := ⟨((x : Int) - y - cc + 10).toNat, by omega⟩
        have V1 := Lib.hid (digs_new wr [u])
        have OW := Lib.hid (own.below ((Below.refl _ wr).alloc (Nat.le_refl _) (.cells (dC [u]).toArray 3)))
        have P1 := Lib.hid (hinv.minus u 1 (by omega) (by omega) (by rw [hX, hY]; omega))
        clear own hinv hX hY
        have hu2 : (u : Int) < 10 := by omega
        have h10 : decide ((u : Int) < 10) = true := by simpa using hu2
        have h11 : u < 10 := by omega
        go_wp2_with (first | (go_at_call 57; (with_reducible refine D1.out.mono ?_); rintro e w' ⟨rfl, rfl⟩) | (go_at_call 57; (with_reducible refine D2.out.mono ?_); rintro e w' ⟨rfl, rfl⟩) | (at_builtin; (refine wp_appD rfl (.tmp 53) (.tmp 55) rfl w.heap.size _ O rfl OW.out (some ⟨wr.heap.size, 0, none⟩) 1 1 _ [u] rfl (fun h => by cases h) V1.out rfl (by omega) OL.out (by have := BA.out; simp; omega) ?_); intro v3 w3 own3 hb3; have O3 := Lib.hid own3; have B3 := Lib.hid hb3; clear own3 hb3))
        go_roundw
        case rel => exact ⟨k + 1, 1, O ++ [u], by omega, by go_num, rfl, O3.out, P1.out, (below_box BE.out _).trans B3.out, by have h8 := B3.out.size; rw [World.size_alloc] at h8; have := BA.out; omega⟩
        case measure => simp [intOf] <;> omega
      · obtain ⟨u, hu⟩ : ∃ u : Nat, (x : Int) - y - cc = u := ⟨((x : Int) - y - cc).toNat, by omega⟩
        have V1 := Lib.hid (digs_new wr [u])
        have OW := Lib.hid (own.below ((Below.refl _ wr).alloc (Nat.le_refl _) (.cells (dC [u]).toArray 3)))
        have P1 := Lib.hid (hinv.minus u 0 (by omega) (by omega) (by rw [hX, hY]; omega))
        clear own hinv hX hY
        have hu2 : (u : Int) < 10 := by omega
        have h11 : u < 10 := by omega
        go_wp2_with (first | (go_at_call 57; (with_reducible refine D1.out.mono ?_); rintro e w' ⟨rfl, rfl⟩) | (go_at_call 57; (with_reducible refine D2.out.mono ?_); rintro e w' ⟨rfl, rfl⟩) | (at_builtin; (refine wp_appD rfl (.tmp 53) (.tmp 55) rfl w.heap.size _ O rfl OW.out (some ⟨wr.heap.size, 0, none⟩) 1 1 _ [u] rfl (fun h => by cases h) V1.out rfl (by omega) OL.out (by have := BA.out; simp; omega) ?_); intro v3 w3 own3 hb3; have O3 := Lib.hid own3; have B3 := Lib.hid hb3; clear own3 hb3))
        go_roundw
        case rel => exact ⟨k + 1, 0, O ++ [u], by omega, by go_num, rfl, O3.out, P1.out, (below_box BE.out _).trans B3.out, by have h8 := B3.out.size; rw [World.size_alloc] at h8; have := BA.out; omega⟩
        case measure => simp [intOf] <;> omega
    · obtain rfl : k = n' + 1 := by omega
      have hv := Lib.hid (hinv.end_minus ha.out hb.out hle)
      have hd9 : decide (n' + 1 ≤ n') = false := by simp
      have hd8 : decide (((n' + 1 : Nat) : Int) ≤ n') = false := by simp; omega
      have hlen := hinv.1
      have hdig := Lib.hid hinv.2.1
      obtain ⟨A2, cap2, rfl, hds, hcp, hcm, hnn⟩ := own.form
      rw [hlen]
      have HD := Lib.hid hds
      have HL := Lib.hid hlen
      have HC := Lib.hid hcp
      have HNN := Lib.hid hnn
      clear own hinv hds hlen hnn
      go_wp2_with fail
      go_loop [8] (CutRel A2 cap2 O) (fun v => sliceLen v)
      case atStart => exact ⟨n' + 1, by rw [HL.out]; exact Nat.le_refl _, rfl, by rw [List.take_of_length_le (by rw [HL.out]; exact Nat.le_refl _)]⟩
      case round =>
        obtain ⟨m, hm, rfl, hval⟩ := hrel
        have HV := Lib.hid hval
        have hm2 : m ≤ n' + 1 := by rw [← HL.out]; exact hm
        have hmc : m ≤ cap2 := by have h9 := HC.out; rw [HL.out] at h9; omega
        have HR := Lib.hid (show RowPost (plusV true a b) n' w (.returned (.slice A2 m cap2)) wr from
          ⟨A2, m, cap2, O.take m, rfl, ⟨HD.out.take m, by rw [List.length_take]; omega, hmc, hcm, HNN.out, Pd.Dig_take hdig.out m, by omega⟩, by rw [hval, hv.out]; rfl, hm2, BE.out⟩)
        clear hval
        cases m with
        | zero =>
          go_wp2_with fail
          go_ret
          exact HR.out
        | succ j =>
          have hjl : j < O.length := by omega
          obtain ⟨b, off, rfl, hb1, hb2⟩ := HD.out (fun e => by rw [e] at hjl; simp at hjl)
          have hcell := hb2 j O[j] (List.getElem?_eq_getElem hjl)
          have hcut := Lib.hid (show O[j] = 0 → CutRel (some ⟨b, off, none⟩) cap2 O (.slice (some ⟨b, off, none⟩) j cap2) from fun h => ⟨j, by omega, rfl, by
            have h1 := Pd.val_cut (D := O.take (j + 1)) (k := j) (by rw [List.length_take]; omega) (by rw [Pd.dg_at (by rw [List.length_take]; omega), List.getElem_take]; exact h)
            rw [List.take_take, Nat.min_eq_left (by omega)] at h1
            rw [h1, HV.out]⟩)
          generalize O[j] = u at *
          have hj1 : (j : Int) < cap2 := by omega
          clear hb2
          by_cases hu : u = 0
          · have E := Lib.hid (hcut.out hu)
            subst hu
            clear hcut
            go_wp2_with fail
            go_round
            case rel => exact E.out
            case measure => simp [sliceLen]
          · have hu1 : ((u : Int) == 0) = false := by rw [beq_eq_false_iff_ne]; omega
            have hu2 : (u == 0) = false := by rw [beq_eq_false_iff_ne]; exact hu
            clear hcut hu
            go_wp2_with fail
            go_ret
            exact HR.out
theorem plus_any (a b : List Nat) (A A' : Option Addr) (n cap n' cap' N : Nat) (w : World) (ra : Row w A n cap a) (rb : Row w A' n' cap' b) (h1 : n ≤ N) (h2 : n' ≤ N) (hN : N ≤ 99999) :
    Calls Try.prog 48 #[.slice A n cap, .slice A' n' cap', .bool false] w (RowPost (Pd.val a + Pd.val b) N w) := by
  by_cases hc : n' ≤ n
  · exact (plus_add_n a b A A' n cap n' cap' w ra rb hc (by omega)).mono fun e w' ⟨A2, m, c2, D, e1, e2, e3, e4, e5⟩ => ⟨A2, m, c2, D, e1, e2, e3, by omega, e5⟩
  · exact (plus_add_m a b A A' n cap n' cap' w ra rb (by omega) (by omega)).mono fun e w' ⟨A2, m, c2, D, e1, e2, e3, e4, e5⟩ => ⟨A2, m, c2, D, e1, e2, e3, by omega, e5⟩
theorem minus_any (a b : List Nat) (A A' : Option Addr) (n cap n' cap' N : Nat) (w : World) (ra : Row w A n cap a) (rb : Row w A' n' cap' b) (h1 : n ≤ N) (h2 : n' ≤ N) (hN : N ≤ 99999) (hle : Pd.val b ≤ Pd.val a) :
    Calls Try.prog 48 #[.slice A n cap, .slice A' n' cap', .bool true] w (RowPost (Pd.val a - Pd.val b) N w) := by
  by_cases hc : n' ≤ n
  · exact (plus_sub_n a b A A' n cap n' cap' w ra rb hc (by omega) hle).mono fun e w' ⟨A2, m, c2, D, e1, e2, e3, e4, e5⟩ => ⟨A2, m, c2, D, e1, e2, e3, by omega, e5⟩
  · exact (plus_sub_m a b A A' n cap n' cap' w ra rb (by omega) (by omega) hle).mono fun e w' ⟨A2, m, c2, D, e1, e2, e3, e4, e5⟩ => ⟨A2, m, c2, D, e1, e2, e3, by omega, e5⟩
end Go.Proofs.Ytjpnkecfoealoaa.Vc
