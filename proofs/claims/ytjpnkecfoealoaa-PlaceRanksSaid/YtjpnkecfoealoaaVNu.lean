import Derived.Test.YtjpnkecfoealoaaVAd
namespace Go.Proofs.Ytjpnkecfoealoaa.Vc
set_option maxRecDepth 20000
open Go.RowKit
set_option linter.unusedVariables false
theorem field45 (b : Bool) (A : Option Addr) (n c : Nat) (w : World) : (Instr.field 69 (.agg #[.bool b, .slice A n c]) 1).run Try.prog w = .ok (.slice A n c) w := by kernel_rfl
def numV (x : Int) : Value := if I64 x then .tuple #[.int .i64 x, .bool true] else .tuple #[.int .i64 0, .bool false]
theorem top_any (w : World) : Calls Try.prog 46 #[.int .i64 (-9223372036854775808)] w fun e w' => ∃ bl A n cap D, e = .returned (.agg #[.bool bl, .slice A n cap]) ∧ Row w' A n cap D ∧ Pd.val D = 9223372036854775808 ∧ Below w.heap.size w w' :=
  (of_any (-9223372036854775808) w ⟨by omega, by omega⟩).mono fun e w' ⟨bl, A, n, cap, D, h1, h2, h3, h4, h5⟩ => ⟨bl, A, n, cap, D, h1, h2, by
    cases bl with
    | true => simp at h3; first | done | omega
    | false => simp at h3; first | done | omega, h5⟩
def NumRel (D : List Nat) (n : Nat) (mv i : Value) : Prop := ∃ k m : Nat, k ≤ n ∧ i = .int .i64 ((k : Int) - 1) ∧ mv = .int .u64 (m : Int) ∧ Pd.val D = Pd.V (Pd.dg D) k + m * 10 ^ k
set_option maxHeartbeats 1000000 in
theorem num_over_t (D : List Nat) (A : Option Addr) (n cap : Nat) (w : World) (ra : Row w A n cap D) (hv : 9223372036854775808 < Pd.val D) :
    Calls Try.prog 56 #[.agg #[.bool true, .slice A n cap]] w fun e w' => e = .returned (numV (worth true D)) ∧ Below w.heap.size w w' := by
  have RA := Lib.hid ra
  have hsm := ra.small
  clear ra
  have NV := Lib.hid (show numV (worth true D) = .tuple #[.int .i64 0, .bool false] from by unfold numV; rw [if_neg (by simp [worth, I64]; omega)])
  have K := Lib.hid (GK.new w true (.slice A n cap))
  have B0 := Lib.hid ((Below.refl _ w).alloc (Nat.le_refl _) (.cells #[.bool true, .slice A n cap] 69))
  have hfd := fun b A n c W => field45 b A n c W
  go_enter Try.func56, Try.ntmps56
  go_wp2_with fail
  refine (top_any _).mono ?_
  rintro _ w1 ⟨tb, A2, n2, cap2, T, rfl, row, htop, hb⟩
  have B1 := Lib.hid (below_step B0.out hb)
  have K1 := Lib.hid (K.out.on hb K.out.lt)
  obtain ⟨k0, k1⟩ := K1.out.c
  have C1 := Lib.hid (less_any T D A2 A n2 cap2 n cap w1 row (RA.out.on B1.out))
  have C2 := Lib.hid (less_any D T A A2 n cap n2 cap2 w1 (RA.out.on B1.out) row)
  have hl1 : lessB T D = true := by unfold lessB; simp; omega

  clear hb row htop
  go_wp2_with (first | (go_at_call 47; (with_reducible refine (C1.out).mono ?_); rintro e w' ⟨rfl, rfl⟩) | (go_at_call 47; (with_reducible refine (C2.out).mono ?_); rintro e w' ⟨rfl, rfl⟩))
  go_ret2
  exact ⟨by rw [NV.out]; rfl, B1.out⟩
set_option maxHeartbeats 1000000 in
theorem num_over_f (D : List Nat) (A : Option Addr) (n cap : Nat) (w : World) (ra : Row w A n cap D) (hv : 9223372036854775808 < Pd.val D) :
    Calls Try.prog 56 #[.agg #[.bool false, .slice A n cap]] w fun e w' => e = .returned (numV (worth false D)) ∧ Below w.heap.size w w' := by
  have RA := Lib.hid ra
  have hsm := ra.small
  clear ra
  have NV := Lib.hid (show numV (worth false D) = .tuple #[.int .i64 0, .bool false] from by unfold numV; rw [if_neg (by simp [worth, I64]; omega)])
  have K := Lib.hid (GK.new w false (.slice A n cap))
  have B0 := Lib.hid ((Below.refl _ w).alloc (Nat.le_refl _) (.cells #[.bool false, .slice A n cap] 69))
  have hfd := fun b A n c W => field45 b A n c W
  go_enter Try.func56, Try.ntmps56
  go_wp2_with fail
  refine (top_any _).mono ?_
  rintro _ w1 ⟨tb, A2, n2, cap2, T, rfl, row, htop, hb⟩
  have B1 := Lib.hid (below_step B0.out hb)
  have K1 := Lib.hid (K.out.on hb K.out.lt)
  obtain ⟨k0, k1⟩ := K1.out.c
  have C1 := Lib.hid (less_any T D A2 A n2 cap2 n cap w1 row (RA.out.on B1.out))
  have C2 := Lib.hid (less_any D T A A2 n cap n2 cap2 w1 (RA.out.on B1.out) row)
  have hl1 : lessB T D = true := by unfold lessB; simp; omega

  clear hb row htop
  go_wp2_with (first | (go_at_call 47; (with_reducible refine (C1.out).mono ?_); rintro e w' ⟨rfl, rfl⟩) | (go_at_call 47; (with_reducible refine (C2.out).mono ?_); rintro e w' ⟨rfl, rfl⟩))
  go_ret2
  exact ⟨by rw [NV.out]; rfl, B1.out⟩
set_option maxHeartbeats 1000000 in
theorem num_less_t (D : List Nat) (A : Option Addr) (n cap : Nat) (w : World) (ra : Row w A n cap D) (hv : Pd.val D < 9223372036854775808) :
    Calls Try.prog 56 #[.agg #[.bool true, .slice A n cap]] w fun e w' => e = .returned (numV (worth true D)) ∧ Below w.heap.size w w' := by
  have RA := Lib.hid ra
  have hsm := ra.small
  clear ra
  have NV := Lib.hid (show numV (worth true D) = .tuple #[.int .i64 (-(Pd.val D : Int)), .bool true] from by unfold numV; rw [if_pos (by simp [worth, I64]; omega)]; simp [worth])
  have K := Lib.hid (GK.new w true (.slice A n cap))
  have B0 := Lib.hid ((Below.refl _ w).alloc (Nat.le_refl _) (.cells #[.bool true, .slice A n cap] 69))
  have hfd := fun b A n c W => field45 b A n c W
  go_enter Try.func56, Try.ntmps56
  go_wp2_with fail
  refine (top_any _).mono ?_
  rintro _ w1 ⟨tb, A2, n2, cap2, T, rfl, row, htop, hb⟩
  have B1 := Lib.hid (below_step B0.out hb)
  have K1 := Lib.hid (K.out.on hb K.out.lt)
  obtain ⟨k0, k1⟩ := K1.out.c
  have C1 := Lib.hid (less_any T D A2 A n2 cap2 n cap w1 row (RA.out.on B1.out))
  have C2 := Lib.hid (less_any D T A A2 n cap n2 cap2 w1 (RA.out.on B1.out) row)
  have hl1 : lessB T D = false := by unfold lessB; simp; omega
  have hl2 : lessB D T = true := by unfold lessB; simp; omega
  clear hb row htop
  go_wp2_with (first | (go_at_call 47; (with_reducible refine (C1.out).mono ?_); rintro e w' ⟨rfl, rfl⟩) | (go_at_call 47; (with_reducible refine (C2.out).mono ?_); rintro e w' ⟨rfl, rfl⟩))
  go_loop [5, 6] (NumRel D n) (fun _ i => (intOf i + 1).toNat)
  case atStart => exact ⟨n, 0, Nat.le_refl _, rfl, rfl, by rw [Pd.val_V (by rw [RA.out.len]; exact Nat.le_refl _)]; simp⟩
  case round =>
    obtain ⟨k, m, hk, rfl, rfl, hval⟩ := hrel
    have hml := Pd.horner_le hval
    have HV := Lib.hid hval
    clear hval
    cases k with
    | succ j =>
      rw [show ((j + 1 : Nat) : Int) - 1 = (j : Int) from by omega]
      have hjl : j < D.length := by rw [RA.out.len]; omega
      obtain ⟨b, off, rfl, hb1, hb2⟩ := (RA.out.on B1.out).at' (fun e => by rw [e] at hjl; simp at hjl)
      have hcell := hb2 j D[j] (List.getElem?_eq_getElem hjl)
      have hh := Pd.horner HV.out
      rw [Pd.dg_at hjl] at hh
      have hd := RA.out.dig D[j] (List.getElem_mem hjl)
      have hle : m * 10 + D[j] ≤ Pd.val D := Pd.horner_le hh
      have HH := Lib.hid hh
      generalize D[j] = u at *
      have hle2 : (m : Int) * 10 + u ≤ 9223372036854775808 := by omega
      have hj1 : (j : Int) < n := by omega
      have hu0 : (0 : Int) ≤ u := by omega
      have hu1 : (u : Int) ≤ 9 := by omega
      clear hb2 hh hle
      go_wp2_with fail
      go_round
      case rel => exact ⟨j, m * 10 + u, by omega, rfl, by rw [show ((m * 10 + u : Nat) : Int) = (m : Int) * 10 + u from by omega], HH.out⟩
      case measure => simp [intOf]
    | zero =>
      rw [show ((0 : Nat) : Int) - 1 = -1 from by omega]
      have hm : m = Pd.val D := by have := HV.out; simp [Pd.V] at this; omega
      have HM := Lib.hid hm
      have hmb : (m : Int) ≤ 9223372036854775808 := by omega
      have hm0 : (0 : Int) ≤ m := by omega
      have hw : IntKind.i64.wrap (IntKind.u64.wrap (-(m : Int))) = -(m : Int) := by rw [IntKind.wrap_u64, IntKind.wrap_i64]; omega
      clear hm
      go_wp2_with fail
      go_ret2
      exact ⟨by rw [NV.out, ← HM.out]; first | rfl | (rw [hw]; rfl), B1.out⟩
set_option maxHeartbeats 1000000 in
theorem num_less_f (D : List Nat) (A : Option Addr) (n cap : Nat) (w : World) (ra : Row w A n cap D) (hv : Pd.val D < 9223372036854775808) :
    Calls Try.prog 56 #[.agg #[.bool false, .slice A n cap]] w fun e w' => e = .returned (numV (worth false D)) ∧ Below w.heap.size w w' := by
  have RA := Lib.hid ra
  have hsm := ra.small
  clear ra
  have NV := Lib.hid (show numV (worth false D) = .tuple #[.int .i64 ((Pd.val D : Int)), .bool true] from by unfold numV; rw [if_pos (by simp [worth, I64]; omega)]; simp [worth])
  have K := Lib.hid (GK.new w false (.slice A n cap))
  have B0 := Lib.hid ((Below.refl _ w).alloc (Nat.le_refl _) (.cells #[.bool false, .slice A n cap] 69))
  have hfd := fun b A n c W => field45 b A n c W
  go_enter Try.func56, Try.ntmps56
  go_wp2_with fail
  refine (top_any _).mono ?_
  rintro _ w1 ⟨tb, A2, n2, cap2, T, rfl, row, htop, hb⟩
  have B1 := Lib.hid (below_step B0.out hb)
  have K1 := Lib.hid (K.out.on hb K.out.lt)
  obtain ⟨k0, k1⟩ := K1.out.c
  have C1 := Lib.hid (less_any T D A2 A n2 cap2 n cap w1 row (RA.out.on B1.out))
  have C2 := Lib.hid (less_any D T A A2 n cap n2 cap2 w1 (RA.out.on B1.out) row)
  have hl1 : lessB T D = false := by unfold lessB; simp; omega
  have hl2 : lessB D T = true := by unfold lessB; simp; omega
  clear hb row htop
  go_wp2_with (first | (go_at_call 47; (with_reducible refine (C1.out).mono ?_); rintro e w' ⟨rfl, rfl⟩) | (go_at_call 47; (with_reducible refine (C2.out).mono ?_); rintro e w' ⟨rfl, rfl⟩))
  go_loop [5, 6] (NumRel D n) (fun _ i => (intOf i + 1).toNat)
  case atStart => exact ⟨n, 0, Nat.le_refl _, rfl, rfl, by rw [Pd.val_V (by rw [RA.out.len]; exact Nat.le_refl _)]; simp⟩
  case round =>
    obtain ⟨k, m, hk, rfl, rfl, hval⟩ := hrel
    have hml := Pd.horner_le hval
    have HV := Lib.hid hval
    clear hval
    cases k with
    | succ j =>
      rw [show ((j + 1 : Nat) : Int) - 1 = (j : Int) from by omega]
      have hjl : j < D.length := by rw [RA.out.len]; omega
      obtain ⟨b, off, rfl, hb1, hb2⟩ := (RA.out.on B1.out).at' (fun e => by rw [e] at hjl; simp at hjl)
      have hcell := hb2 j D[j] (List.getElem?_eq_getElem hjl)
      have hh := Pd.horner HV.out
      rw [Pd.dg_at hjl] at hh
      have hd := RA.out.dig D[j] (List.getElem_mem hjl)
      have hle : m * 10 + D[j] ≤ Pd.val D := Pd.horner_le hh
      have HH := Lib.hid hh
      generalize D[j] = u at *
      have hle2 : (m : Int) * 10 + u ≤ 9223372036854775808 := by omega
      have hj1 : (j : Int) < n := by omega
      have hu0 : (0 : Int) ≤ u := by omega
      have hu1 : (u : Int) ≤ 9 := by omega
      clear hb2 hh hle
      go_wp2_with fail
      go_round
      case rel => exact ⟨j, m * 10 + u, by omega, rfl, by rw [show ((m * 10 + u : Nat) : Int) = (m : Int) * 10 + u from by omega], HH.out⟩
      case measure => simp [intOf]
    | zero =>
      rw [show ((0 : Nat) : Int) - 1 = -1 from by omega]
      have hm : m = Pd.val D := by have := HV.out; simp [Pd.V] at this; omega
      have HM := Lib.hid hm
      have hmb : (m : Int) ≤ 9223372036854775807 := by omega
      have hm0 : (0 : Int) ≤ m := by omega
  
      clear hm
      go_wp2_with fail
      go_ret2
      exact ⟨by rw [NV.out, ← HM.out]; first | rfl | (rw [hw]; rfl), B1.out⟩
set_option maxHeartbeats 1000000 in
theorem num_top_t (D : List Nat) (A : Option Addr) (n cap : Nat) (w : World) (ra : Row w A n cap D) (hv : Pd.val D = 9223372036854775808) :
    Calls Try.prog 56 #[.agg #[.bool true, .slice A n cap]] w fun e w' => e = .returned (numV (worth true D)) ∧ Below w.heap.size w w' := by
  have RA := Lib.hid ra
  have hsm := ra.small
  clear ra
  have NV := Lib.hid (show numV (worth true D) = .tuple #[.int .i64 (-(Pd.val D : Int)), .bool true] from by unfold numV; rw [if_pos (by simp [worth, I64]; omega)]; simp [worth])
  have K := Lib.hid (GK.new w true (.slice A n cap))
  have B0 := Lib.hid ((Below.refl _ w).alloc (Nat.le_refl _) (.cells #[.bool true, .slice A n cap] 69))
  have hfd := fun b A n c W => field45 b A n c W
  go_enter Try.func56, Try.ntmps56
  go_wp2_with fail
  refine (top_any _).mono ?_
  rintro _ w1 ⟨tb, A2, n2, cap2, T, rfl, row, htop, hb⟩
  have B1 := Lib.hid (below_step B0.out hb)
  have K1 := Lib.hid (K.out.on hb K.out.lt)
  obtain ⟨k0, k1⟩ := K1.out.c
  have C1 := Lib.hid (less_any T D A2 A n2 cap2 n cap w1 row (RA.out.on B1.out))
  have C2 := Lib.hid (less_any D T A A2 n cap n2 cap2 w1 (RA.out.on B1.out) row)
  have hl1 : lessB T D = false := by unfold lessB; simp; omega
  have hl2 : lessB D T = false := by unfold lessB; simp; omega
  clear hb row htop
  go_wp2_with (first | (go_at_call 47; (with_reducible refine (C1.out).mono ?_); rintro e w' ⟨rfl, rfl⟩) | (go_at_call 47; (with_reducible refine (C2.out).mono ?_); rintro e w' ⟨rfl, rfl⟩))
  go_loop [5, 6] (NumRel D n) (fun _ i => (intOf i + 1).toNat)
  case atStart => exact ⟨n, 0, Nat.le_refl _, rfl, rfl, by rw [Pd.val_V (by rw [RA.out.len]; exact Nat.le_refl _)]; simp⟩
  case round =>
    obtain ⟨k, m, hk, rfl, rfl, hval⟩ := hrel
    have hml := Pd.horner_le hval
    have HV := Lib.hid hval
    clear hval
    cases k with
    | succ j =>
      rw [show ((j + 1 : Nat) : Int) - 1 = (j : Int) from by omega]
      have hjl : j < D.length := by rw [RA.out.len]; omega
      obtain ⟨b, off, rfl, hb1, hb2⟩ := (RA.out.on B1.out).at' (fun e => by rw [e] at hjl; simp at hjl)
      have hcell := hb2 j D[j] (List.getElem?_eq_getElem hjl)
      have hh := Pd.horner HV.out
      rw [Pd.dg_at hjl] at hh
      have hd := RA.out.dig D[j] (List.getElem_mem hjl)
      have hle : m * 10 + D[j] ≤ Pd.val D := Pd.horner_le hh
      have HH := Lib.hid hh
      generalize D[j] = u at *
      have hle2 : (m : Int) * 10 + u ≤ 9223372036854775808 := by omega
      have hj1 : (j : Int) < n := by omega
      have hu0 : (0 : Int) ≤ u := by omega
      have hu1 : (u : Int) ≤ 9 := by omega
      clear hb2 hh hle
      go_wp2_with fail
      go_round
      case rel => exact ⟨j, m * 10 + u, by omega, rfl, by rw [show ((m * 10 + u : Nat) : Int) = (m : Int) * 10 + u from by omega], HH.out⟩
      case measure => simp [intOf]
    | zero =>
      rw [show ((0 : Nat) : Int) - 1 = -1 from by omega]
      have hm : m = Pd.val D := by have := HV.out; simp [Pd.V] at this; omega
      have HM := Lib.hid hm
      have hmb : (m : Int) ≤ 9223372036854775808 := by omega
      have hm0 : (0 : Int) ≤ m := by omega
      have hw : IntKind.i64.wrap (IntKind.u64.wrap (-(m : Int))) = -(m : Int) := by rw [IntKind.wrap_u64, IntKind.wrap_i64]; omega
      clear hm
      go_wp2_with fail
      go_ret2
      exact ⟨by rw [NV.out, ← HM.out]; first | rfl | (rw [hw]; rfl), B1.out⟩
set_option maxHeartbeats 1000000 in
theorem num_top_f (D : List Nat) (A : Option Addr) (n cap : Nat) (w : World) (ra : Row w A n cap D) (hv : Pd.val D = 9223372036854775808) :
    Calls Try.prog 56 #[.agg #[.bool false, .slice A n cap]] w fun e w' => e = .returned (numV (worth false D)) ∧ Below w.heap.size w w' := by
  have RA := Lib.hid ra
  have hsm := ra.small
  clear ra
  have NV := Lib.hid (show numV (worth false D) = .tuple #[.int .i64 0, .bool false] from by unfold numV; rw [if_neg (by simp [worth, I64]; omega)])
  have K := Lib.hid (GK.new w false (.slice A n cap))
  have B0 := Lib.hid ((Below.refl _ w).alloc (Nat.le_refl _) (.cells #[.bool false, .slice A n cap] 69))
  have hfd := fun b A n c W => field45 b A n c W
  go_enter Try.func56, Try.ntmps56
  go_wp2_with fail
  refine (top_any _).mono ?_
  rintro _ w1 ⟨tb, A2, n2, cap2, T, rfl, row, htop, hb⟩
  have B1 := Lib.hid (below_step B0.out hb)
  have K1 := Lib.hid (K.out.on hb K.out.lt)
  obtain ⟨k0, k1⟩ := K1.out.c
  have C1 := Lib.hid (less_any T D A2 A n2 cap2 n cap w1 row (RA.out.on B1.out))
  have C2 := Lib.hid (less_any D T A A2 n cap n2 cap2 w1 (RA.out.on B1.out) row)
  have hl1 : lessB T D = false := by unfold lessB; simp; omega
  have hl2 : lessB D T = false := by unfold lessB; simp; omega
  clear hb row htop
  go_wp2_with (first | (go_at_call 47; (with_reducible refine (C1.out).mono ?_); rintro e w' ⟨rfl, rfl⟩) | (go_at_call 47; (with_reducible refine (C2.out).mono ?_); rintro e w' ⟨rfl, rfl⟩))
  go_ret2
  exact ⟨by rw [NV.out]; rfl, B1.out⟩
theorem num_any (bl : Bool) (D : List Nat) (A : Option Addr) (n cap : Nat) (w : World) (ra : Row w A n cap D) : Calls Try.prog 56 #[.agg #[.bool bl, .slice A n cap]] w fun e w' => e = .returned (numV (worth bl D)) ∧ Below w.heap.size w w' := by
  rcases Nat.lt_trichotomy (Pd.val D) 9223372036854775808 with h | h | h
  · cases bl with
    | true => exact num_less_t D A n cap w ra h
    | false => exact num_less_f D A n cap w ra h
  · cases bl with
    | true => exact num_top_t D A n cap w ra h
    | false => exact num_top_f D A n cap w ra h
  · cases bl with
    | true => exact num_over_t D A n cap w ra h
    | false => exact num_over_f D A n cap w ra h
end Go.Proofs.Ytjpnkecfoealoaa.Vc
