import Derived.Test.YtjpnkecfoealoaaVRf
import Derived.Test.YtjpnkecfoealoaaVShare
namespace Go.Proofs.Ytjpnkecfoealoaa.Vc
set_option maxRecDepth 20000
open Go.RowKit
set_option linter.unusedVariables false
theorem V_cons0 (D : List Nat) : ∀ n : Nat, Pd.V (Pd.dg (0 :: D)) (n + 1) = 10 * Pd.V (Pd.dg D) n
  | 0 => by simp [Pd.V, Pd.dg]
  | n + 1 => by
    show Pd.V (Pd.dg (0 :: D)) (n + 1) + Pd.dg (0 :: D) (n + 1) * 10 ^ (n + 1) = 10 * (Pd.V (Pd.dg D) n + Pd.dg D n * 10 ^ n)
    rw [V_cons0 D n, show Pd.dg (0 :: D) (n + 1) = Pd.dg D n from by simp [Pd.dg], Nat.pow_succ, Nat.mul_add, Nat.mul_comm (10 ^ n) 10, ← Nat.mul_assoc, Nat.mul_comm (Pd.dg D n) 10, Nat.mul_assoc 10]
theorem val_cons0 (D : List Nat) : Pd.val (0 :: D) = 10 * Pd.val D := V_cons0 D D.length
theorem val_thousand (D : List Nat) : Pd.val ([0, 0, 0] ++ D) = 1000 * Pd.val D := by
  show Pd.val (0 :: 0 :: 0 :: D) = _
  rw [val_cons0, val_cons0, val_cons0]
  omega
theorem OwnD.three (w : World) : OwnD (w.alloc (.cells #[.int .i64 0, .int .i64 0, .int .i64 0] 3)) w.heap.size (.slice (some ⟨w.heap.size, 0, none⟩) 3 3) [0, 0, 0] :=
  ⟨rfl, .inr ⟨w.heap.size, 3, _, rfl, Nat.le_refl _, heap_alloc_new w _, by simp, by simp [maxLen], rfl, rfl⟩⟩
/-- by trial: the greatest k with k times B within 1000 times a -/
theorem quot_of {u v : Int} {k : Nat} (hv : 0 < v) (h1 : (k : Int) * v ≤ 1000 * u) (h2 : 1000 * u < ((k : Int) + 1) * v) : 1000 * u / v = k := by
  apply Int.le_antisymm
  · have := Int.ediv_lt_of_lt_mul hv h2
    omega
  · exact (Int.le_ediv_iff_mul_le hv).2 h1
theorem BK.drewN' {W : World} {b : Nat} {x y z : Int} (h : BK W b x y z) (n : Nat) : BK (W.drewN n) b x y z := h
/-- the outer loop's head -/
def ShRel (w : World) (a b c x y z o1 o2 o3 : Int) (v i : Value) (W : World) : Prop :=
  ((i = .int .i64 0 ∧ v = .int .i64 0) ∨ (i = .int .i64 1 ∧ v = .int .i64 o1) ∨ (i = .int .i64 2 ∧ v = .int .i64 o2) ∨ (i = .int .i64 3 ∧ v = .int .i64 o3)) ∧
  Below w.heap.size w W ∧ BK W w.heap.size a b c ∧ BK W (w.heap.size + 1) x y z
/-- the trial's head: k times have has been got -/
def TrRel (W1 : World) (u : Int) (v : Int) (sv got : Value) (wr : World) : Prop :=
  ∃ (k : Nat) (A : Option Addr) (n c : Nat) (G : List Nat), k ≤ 1000 ∧ sv = .int .i64 (k : Int) ∧ got = .slice A n c ∧ Row wr A n c G ∧ (Pd.val G : Int) = k * v ∧ (k : Int) * v ≤ 1000 * u ∧ n ≤ 30 + k ∧ Below W1.heap.size W1 wr
set_option maxRecDepth 100000 in
set_option maxHeartbeats 4000000 in
theorem refShare_yes (a b c x y z : Int) (w : World) (ba : I64 a) (bb : I64 b) (bc : I64 c) (bx : I64 x) (by' : I64 y) (bz : I64 z) (h1 : fitB 0 0 0 a b c = true) (h2 : fitB 0 0 0 x y z = true) :
    Calls Try.prog 34 #[.agg #[.int .i64 a, .int .i64 b, .int .i64 c], .agg #[.int .i64 x, .int .i64 y, .int .i64 z]] w (RetBelow (.int .i64 (shV a b c x y z)) w) := by
  obtain ⟨na, nb, nc⟩ := may_iff.1 h1
  obtain ⟨nx, ny, nz⟩ := may_iff.1 h2
  have c1 := Lib.hid fun W : World => refMay_any a b c W
  have c2 := Lib.hid fun W : World => refMay_any x y z W
  rw [h1] at c1
  rw [h2] at c2
  clear h1 h2
  have hfd := fun b A n c W => field45 b A n c W
  obtain ⟨o1, ho1⟩ : ∃ o, mx 0 (shr a x) = o := ⟨_, rfl⟩
  obtain ⟨o2, ho2⟩ : ∃ o, mx o1 (shr b y) = o := ⟨_, rfl⟩
  obtain ⟨o3, ho3⟩ : ∃ o, mx o2 (shr c z) = o := ⟨_, rfl⟩
  have HF := Lib.hid (show shV a b c x y z = o3 by unfold shV; rw [ho1, ho2, ho3])
  have E1 := Lib.hid ho1
  have E2 := Lib.hid ho2
  have E3 := Lib.hid ho3
  clear ho1 ho2 ho3
  have K := (BK.new w a b c).alloc (.cells #[.int .i64 x, .int .i64 y, .int .i64 z] 24)
  have L := BK.new (w.alloc (.cells #[.int .i64 a, .int .i64 b, .int .i64 c] 24)) x y z
  have B : Below w.heap.size w ((w.alloc (.cells #[.int .i64 a, .int .i64 b, .int .i64 c] 24)).alloc (.cells #[.int .i64 x, .int .i64 y, .int .i64 z] 24)) := below_box (below_box (Below.refl _ _) _) _
  simp only [World.size_alloc] at K L
  have K := Lib.hid K
  have L := Lib.hid L
  have B := Lib.hid B
  go_enter Try.func34, Try.ntmps34
  go_wp2_with fail
  refine (c1.out _).mono ?_
  rintro _ w1 ⟨rfl, hb⟩
  have K := Lib.hid (K.out.on hb K.out.lt)
  have L := Lib.hid (L.out.on hb L.out.lt)
  have B := Lib.hid (below_step B.out hb)
  obtain ⟨d0, d1, d2⟩ := L.out.c3
  clear hb
  go_wp2_with fail
  refine (c2.out _).mono ?_
  rintro _ w2 ⟨rfl, hb⟩
  have K := Lib.hid (K.out.on hb K.out.lt)
  have L := Lib.hid (L.out.on hb L.out.lt)
  have B := Lib.hid (below_step B.out hb)
  clear hb d0 d1 d2 c1 c2
  go_wp2_with fail
  go_loopw [5, 6] (ShRel w a b c x y z o1 o2 o3) (fun _ i _ => 3 - (intOf i).toNat)
  case atStart => exact ⟨.inl ⟨rfl, rfl⟩, B.out, K.out, L.out⟩
  case round =>
    clear B K L
    obtain ⟨hk, B, K, L⟩ := hrel
    have B := Lib.hid B
    have K := Lib.hid K
    have L := Lib.hid L
    obtain ⟨k0, k1, k2⟩ := K.out.c3
    obtain ⟨l0, l1, l2⟩ := L.out.c3
    rcases hk with ⟨rfl, rfl⟩ | ⟨rfl, rfl⟩ | ⟨rfl, rfl⟩ | ⟨rfl, rfl⟩
    · by_cases hgt : x < a
      · have HSH := Lib.hid (show shr a x = 1000 by unfold shr; rw [if_pos hgt])
        have hdg : decide (x < a) = true := by simpa using hgt
        by_cases hos : 0 < 1000
        · have hd : decide (0 < 1000) = true := decide_eq_true hos
          go_wp2_with fail
          go_quiet (fail)
          go_wp2_with fail
          go_roundw
          case rel => exact ⟨.inr (.inl ⟨rfl, by rw [← E1.out, HSH.out]; unfold mx; first | (rw [if_pos hos]) | rfl | (refine congrArg (Value.int IntKind.i64) ?_; split <;> omega) | (exfalso; omega)⟩), below_drewN B.out _, K.out, L.out⟩
          case measure => simp [intOf]
        · have hd : decide (0 < 1000) = false := decide_eq_false hos
          go_wp2_with fail
          go_quiet (fail)
          go_wp2_with fail
          go_roundw
          case rel => exact ⟨.inr (.inl ⟨rfl, by rw [← E1.out, HSH.out]; unfold mx; first | (rw [if_neg hos]) | rfl | (refine congrArg (Value.int IntKind.i64) ?_; split <;> omega) | (exfalso; omega)⟩), below_drewN B.out _, K.out, L.out⟩
          case measure => simp [intOf]
      · by_cases hz : x = 0
        · have HSH := Lib.hid (show shr a x = 0 by unfold shr; rw [if_neg hgt, if_pos hz])
          have hdg : decide (x < a) = false := by simpa using hgt
          have hdz : decide (0 < x) = false := by simp; omega
          clear hz hgt
          by_cases hos : 0 < (0 : Int)
          · have hd : decide (0 < (0 : Int)) = true := decide_eq_true hos
            go_wp2_with fail
            go_quiet (fail)
            go_wp2_with fail
            go_roundw
            case rel => exact ⟨.inr (.inl ⟨rfl, by rw [← E1.out, HSH.out]; unfold mx; first | (rw [if_pos hos]) | rfl | (refine congrArg (Value.int IntKind.i64) ?_; split <;> omega) | (exfalso; omega)⟩), below_drewN B.out _, K.out, L.out⟩
            case measure => simp [intOf]
          · have hd : decide (0 < (0 : Int)) = false := decide_eq_false hos
            go_wp2_with fail
            go_quiet (fail)
            go_wp2_with fail
            go_roundw
            case rel => exact ⟨.inr (.inl ⟨rfl, by rw [← E1.out, HSH.out]; unfold mx; first | (rw [if_neg hos]) | rfl | (refine congrArg (Value.int IntKind.i64) ?_; split <;> omega) | (exfalso; omega)⟩), below_drewN B.out _, K.out, L.out⟩
            case measure => simp [intOf]
        · have HSH := Lib.hid (show shr a x = 1000 * a / x by unfold shr; rw [if_neg hgt, if_neg hz])
          have hdg : decide (x < a) = false := by simpa using hgt
          have hdz : decide (0 < x) = true := by simp; omega
          have hv0 : 0 < x := by omega
          have hle : a ≤ x := by omega
          clear hz hgt
          have CX := Lib.hid fun W' : World => of_any a W' ba
          have CY := Lib.hid fun W' : World => of_any x W' bx
          go_wp2_with fail
          go_quiet (fail)
          have K3 := Lib.hid ((K.out.drewN' nq).alloc (.cells #[.int .i64 0, .int .i64 0, .int .i64 0] 3))
          have L3 := Lib.hid ((L.out.drewN' nq).alloc (.cells #[.int .i64 0, .int .i64 0, .int .i64 0] 3))
          have B3 := Lib.hid (below_box (below_drewN B.out nq) (.cells #[.int .i64 0, .int .i64 0, .int .i64 0] 3))
          have O3 := Lib.hid (OwnD.three (wr.drewN nq))
          have S3 := Lib.hid B.out.size
          obtain ⟨kk0, kk1, kk2⟩ := K3.out.c3
          go_wp2_with (first
            | (go_at_call 46; (with_reducible refine (CX.out _).mono ?_); rintro e w4 ⟨bl4, A4, n4, c4, D4, rfl, row4, hx4, hn4, hb4⟩; have K4 := Lib.hid (K3.out.on hb4 K3.out.lt); have L4 := Lib.hid (L3.out.on hb4 L3.out.lt); have B4 := Lib.hid (below_step B3.out hb4); have O4 := Lib.hid (O3.out.below hb4); have R4 := Lib.hid row4; have X4 := Lib.hid hx4; have S4 := Lib.hid hb4.size; clear hb4 row4 hx4)
            | (at_builtin; (refine wp_appD rfl (.tmp 34) (.tmp 39) rfl wr.heap.size _ [0, 0, 0] rfl (by first | exact O4.out | (have := O4.out; simpa using this)) A4 n4 c4 _ D4 rfl R4.out.none' R4.out.at' R4.out.len R4.out.le (by have := R4.out.small; simp; omega) (by have := S4.out; simp at this; omega) ?_); intro v5 w5 own5 hb5; obtain ⟨A5, cap5, rfl, da5, hc5, hm5, hn5⟩ := own5.form; have K5 := Lib.hid (K4.out.on (hb5.mono (show w.heap.size + 2 ≤ wr.heap.size from by have := L.out.lt; omega)) (by omega)); have L5 := Lib.hid (L4.out.on (hb5.mono (show w.heap.size + 2 ≤ wr.heap.size from by have := L.out.lt; omega)) (by omega)); have B5 := Lib.hid (B4.out.trans (hb5.mono S3.out)); have DA5 := Lib.hid da5; have N5 := Lib.hid hn5; obtain ⟨ll0, ll1, ll2⟩ := L5.out.c3; clear own5 hb5 da5 hn5))
          have R5 := Lib.hid (show Row w5 A5 (D4.length + 1 + 1 + 1) cap5 ([0, 0, 0] ++ D4) from ⟨DA5.out, by simp, by simpa using hc5, hm5, N5.out, by intro d hd; rcases List.mem_append.1 hd with h9 | h9; (simp at h9; omega); exact R4.out.dig d h9, by have := R4.out.len; omega⟩)
          have V5 := Lib.hid (show (Pd.val ([0, 0, 0] ++ D4) : Int) = 1000 * a by
            rw [val_thousand]
            have h9 := X4.out
            cases bl4 with
            | true => simp at h9; omega
            | false => simp at h9; omega)
          refine (CY.out _).mono ?_
          rintro _ w6 ⟨bl6, A6, n6, c6, D6, rfl, row6, hx6, hn6, hb6⟩
          have R6 := Lib.hid (row6.on ((Below.refl _ w6).alloc (Nat.le_refl _) (.cells #[] 3)))
          have R7 := Lib.hid ((R5.out.on hb6).on ((Below.refl _ w6).alloc (Nat.le_refl _) (.cells #[] 3)))
          have V6 := Lib.hid (show (Pd.val D6 : Int) = x by
            cases bl6 with
            | true => simp at hx6; omega
            | false => simp at hx6; omega)
          have K7 := Lib.hid ((K5.out.on hb6 K5.out.lt).alloc (.cells #[] 3))
          have L7 := Lib.hid ((L5.out.on hb6 L5.out.lt).alloc (.cells #[] 3))
          have B7 := Lib.hid (below_box (below_step B5.out hb6) (.cells #[] 3))
          have RN := Lib.hid (show Row (w6.alloc (.cells #[] 3)) (some ⟨w6.heap.size, 0, none⟩) 0 0 [] from ⟨DigsAt.nil _ _ _, rfl, by omega, by omega, fun h => (by cases h), by simp [Pd.Dig], by omega⟩)
          clear row6 hx6 hb6 k0 k1 k2 l0 l1 l2 kk0 kk1 kk2 ll0 ll1 ll2 K3 L3 B3 O3 S3 K4 L4 B4 O4 R4 X4 S4 K5 L5 B5 DA5 N5 CX CY hc5 hm5 R5
          go_wp2_with fail
          generalize w6.alloc (.cells #[] 3) = W1 at *
          go_loopw [7, 10] (TrRel W1 a x) (fun s _ _ => 1000 - (intOf s).toNat)
          case atStart => exact ⟨0, _, 0, 0, [], by omega, rfl, rfl, RN.out, by simp [Pd.val, Pd.V], by simp; omega, by omega, Below.refl _ _⟩
          case round =>
            obtain ⟨k, A8, n8, c8, G, hk, rfl, rfl, rg, hvG, hkv, hn8, bel⟩ := hrel
            have RG := Lib.hid rg
            have VG := Lib.hid hvG
            have BE := Lib.hid bel
            have KV := Lib.hid hkv
            have bc := Lib.hid (Below.refl wr.heap.size wr)
            have CP := Lib.hid fun (W' : World) (h : Below wr.heap.size wr W') => plus_any G D6 A8 A6 n8 c8 n6 c6 (30 + k) W' (RG.out.on h) (R6.out.on (BE.out.trans (h.mono BE.out.size))) (by omega) (by omega) (by omega)
            have CL := Lib.hid fun (W' : World) (A2 : Option Addr) (m2 c2 : Nat) (P : List Nat) (rp : Row W' A2 m2 c2 P) (h : Below wr.heap.size wr W') => less_any ([0, 0, 0] ++ D4) P A5 A2 (D4.length + 1 + 1 + 1) cap5 m2 c2 W' (R7.out.on (BE.out.trans (h.mono BE.out.size))) rp
            have k1v : ((k : Int) + 1) * x = k * x + x := by rw [Int.add_mul, Int.one_mul]
            clear rg hvG bel hkv
            by_cases hk2 : k < 1000
            · have hki : (k : Int) < 1000 := by omega
              by_cases hgo : ((k : Int) + 1) * x ≤ 1000 * a
              · have HLB := Lib.hid (show ∀ P : List Nat, Pd.val P = Pd.val G + Pd.val D6 → lessB ([0, 0, 0] ++ D4) P = false from fun P hP => by
                  have h7 := V5.out; have h8 := V6.out; have h9 := VG.out; unfold lessB; simp only [decide_eq_false_iff_not]; omega)
                have KV2 := Lib.hid hgo
                have K1V := Lib.hid k1v
                clear hgo k1v
                go_wp2_with (first | (go_at_call 48; (with_reducible refine (CP.out _ bc.out).mono ?_); rintro e w' ⟨A2, m2, c2, P, rfl, row, hv, hm, hb⟩; have RP := Lib.hid row; have VP := Lib.hid hv; have MP := Lib.hid hm; have LB := Lib.hid (HLB.out P hv); have bc := Lib.hid (bc.out.trans (hb.mono bc.out.size)); clear row hv hm hb) | (go_at_call 47; (with_reducible refine (CL.out _ A2 m2 c2 P RP.out bc.out).mono ?_); rintro e w' ⟨rfl, rfl⟩; rw [LB.out]))
                go_roundw
                case rel => exact ⟨k + 1, A2, m2, c2, P, by omega, by go_num, rfl, RP.out, by have h7 := V6.out; have h8 := VG.out; have h9 := VP.out; have h6 := K1V.out; push_cast; omega, by have h6 := KV2.out; push_cast; exact h6, by have := MP.out; omega, BE.out.trans (bc.out.mono BE.out.size)⟩
                case measure => simp [intOf]; omega
              · have HLB := Lib.hid (show ∀ P : List Nat, Pd.val P = Pd.val G + Pd.val D6 → lessB ([0, 0, 0] ++ D4) P = true from fun P hP => by
                  have h7 := V5.out; have h8 := V6.out; have h9 := VG.out; unfold lessB; simp only [decide_eq_true_eq]; omega)
                have HQ := Lib.hid (quot_of hv0 KV.out (by omega))
                clear hgo k1v
                by_cases hos : 0 < (k : Int)
                · have hd : decide (0 < (k : Int)) = true := decide_eq_true hos
                  go_wp2_with (first | (go_at_call 48; (with_reducible refine (CP.out _ bc.out).mono ?_); rintro e w' ⟨A2, m2, c2, P, rfl, row, hv, hm, hb⟩; have RP := Lib.hid row; have VP := Lib.hid hv; have MP := Lib.hid hm; have LB := Lib.hid (HLB.out P hv); have bc := Lib.hid (bc.out.trans (hb.mono bc.out.size)); clear row hv hm hb) | (go_at_call 47; (with_reducible refine (CL.out _ A2 m2 c2 P RP.out bc.out).mono ?_); rintro e w' ⟨rfl, rfl⟩; rw [LB.out]))
                  go_roundw
                  case rel => exact ⟨.inr (.inl ⟨rfl, by rw [← E1.out, HSH.out, HQ.out]; unfold mx; first | (rw [if_pos hos]) | rfl | (refine congrArg (Value.int IntKind.i64) ?_; split <;> omega) | (exfalso; omega)⟩), B7.out.trans ((BE.out.trans (bc.out.mono BE.out.size)).mono B7.out.size), K7.out.on (BE.out.trans (bc.out.mono BE.out.size)) K7.out.lt, L7.out.on (BE.out.trans (bc.out.mono BE.out.size)) L7.out.lt⟩
                  case measure => simp [intOf]
                · have hd : decide (0 < (k : Int)) = false := decide_eq_false hos
                  go_wp2_with (first | (go_at_call 48; (with_reducible refine (CP.out _ bc.out).mono ?_); rintro e w' ⟨A2, m2, c2, P, rfl, row, hv, hm, hb⟩; have RP := Lib.hid row; have VP := Lib.hid hv; have MP := Lib.hid hm; have LB := Lib.hid (HLB.out P hv); have bc := Lib.hid (bc.out.trans (hb.mono bc.out.size)); clear row hv hm hb) | (go_at_call 47; (with_reducible refine (CL.out _ A2 m2 c2 P RP.out bc.out).mono ?_); rintro e w' ⟨rfl, rfl⟩; rw [LB.out]))
                  go_roundw
                  case rel => exact ⟨.inr (.inl ⟨rfl, by rw [← E1.out, HSH.out, HQ.out]; unfold mx; first | (rw [if_neg hos]) | rfl | (refine congrArg (Value.int IntKind.i64) ?_; split <;> omega) | (exfalso; omega)⟩), B7.out.trans ((BE.out.trans (bc.out.mono BE.out.size)).mono B7.out.size), K7.out.on (BE.out.trans (bc.out.mono BE.out.size)) K7.out.lt, L7.out.on (BE.out.trans (bc.out.mono BE.out.size)) L7.out.lt⟩
                  case measure => simp [intOf]
            · have hq : 1000 * a / x = k := quot_of hv0 KV.out (by have e9 : (k : Int) = 1000 := (by omega); rw [k1v, e9]; omega)
              have HQ := Lib.hid hq
              have hki : decide ((k : Int) < 1000) = false := by simp; omega
              clear hq k1v
              by_cases hos : 0 < (k : Int)
              · have hd : decide (0 < (k : Int)) = true := decide_eq_true hos
                go_wp2_with fail
                go_roundw
                case rel => exact ⟨.inr (.inl ⟨rfl, by rw [← E1.out, HSH.out, HQ.out]; unfold mx; first | (rw [if_pos hos]) | rfl | (refine congrArg (Value.int IntKind.i64) ?_; split <;> omega) | (exfalso; omega)⟩), B7.out.trans ((BE.out.trans (bc.out.mono BE.out.size)).mono B7.out.size), K7.out.on (BE.out.trans (bc.out.mono BE.out.size)) K7.out.lt, L7.out.on (BE.out.trans (bc.out.mono BE.out.size)) L7.out.lt⟩
                case measure => simp [intOf]
              · exfalso; omega
    · by_cases hgt : y < b
      · have HSH := Lib.hid (show shr b y = 1000 by unfold shr; rw [if_pos hgt])
        have hdg : decide (y < b) = true := by simpa using hgt
        by_cases hos : o1 < 1000
        · have hd : decide (o1 < 1000) = true := decide_eq_true hos
          go_wp2_with fail
          go_quiet (fail)
          go_wp2_with fail
          go_roundw
          case rel => exact ⟨.inr (.inr (.inl ⟨rfl, by rw [← E2.out, HSH.out]; unfold mx; first | (rw [if_pos hos]) | rfl | (refine congrArg (Value.int IntKind.i64) ?_; split <;> omega) | (exfalso; omega)⟩)), below_drewN B.out _, K.out, L.out⟩
          case measure => simp [intOf]
        · have hd : decide (o1 < 1000) = false := decide_eq_false hos
          go_wp2_with fail
          go_quiet (fail)
          go_wp2_with fail
          go_roundw
          case rel => exact ⟨.inr (.inr (.inl ⟨rfl, by rw [← E2.out, HSH.out]; unfold mx; first | (rw [if_neg hos]) | rfl | (refine congrArg (Value.int IntKind.i64) ?_; split <;> omega) | (exfalso; omega)⟩)), below_drewN B.out _, K.out, L.out⟩
          case measure => simp [intOf]
      · by_cases hz : y = 0
        · have HSH := Lib.hid (show shr b y = 0 by unfold shr; rw [if_neg hgt, if_pos hz])
          have hdg : decide (y < b) = false := by simpa using hgt
          have hdz : decide (0 < y) = false := by simp; omega
          clear hz hgt
          by_cases hos : o1 < (0 : Int)
          · have hd : decide (o1 < (0 : Int)) = true := decide_eq_true hos
            go_wp2_with fail
            go_quiet (fail)
            go_wp2_with fail
            go_roundw
            case rel => exact ⟨.inr (.inr (.inl ⟨rfl, by rw [← E2.out, HSH.out]; unfold mx; first | (rw [if_pos hos]) | rfl | (refine congrArg (Value.int IntKind.i64) ?_; split <;> omega) | (exfalso; omega)⟩)), below_drewN B.out _, K.out, L.out⟩
            case measure => simp [intOf]
          · have hd : decide (o1 < (0 : Int)) = false := decide_eq_false hos
            go_wp2_with fail
            go_quiet (fail)
            go_wp2_with fail
            go_roundw
            case rel => exact ⟨.inr (.inr (.inl ⟨rfl, by rw [← E2.out, HSH.out]; unfold mx; first | (rw [if_neg hos]) | rfl | (refine congrArg (Value.int IntKind.i64) ?_; split <;> omega) | (exfalso; omega)⟩)), below_drewN B.out _, K.out, L.out⟩
            case measure => simp [intOf]
        · have HSH := Lib.hid (show shr b y = 1000 * b / y by unfold shr; rw [if_neg hgt, if_neg hz])
          have hdg : decide (y < b) = false := by simpa using hgt
          have hdz : decide (0 < y) = true := by simp; omega
          have hv0 : 0 < y := by omega
          have hle : b ≤ y := by omega
          clear hz hgt
          have CX := Lib.hid fun W' : World => of_any b W' bb
          have CY := Lib.hid fun W' : World => of_any y W' by'
          go_wp2_with fail
          go_quiet (fail)
          have K3 := Lib.hid ((K.out.drewN' nq).alloc (.cells #[.int .i64 0, .int .i64 0, .int .i64 0] 3))
          have L3 := Lib.hid ((L.out.drewN' nq).alloc (.cells #[.int .i64 0, .int .i64 0, .int .i64 0] 3))
          have B3 := Lib.hid (below_box (below_drewN B.out nq) (.cells #[.int .i64 0, .int .i64 0, .int .i64 0] 3))
          have O3 := Lib.hid (OwnD.three (wr.drewN nq))
          have S3 := Lib.hid B.out.size
          obtain ⟨kk0, kk1, kk2⟩ := K3.out.c3
          go_wp2_with (first
            | (go_at_call 46; (with_reducible refine (CX.out _).mono ?_); rintro e w4 ⟨bl4, A4, n4, c4, D4, rfl, row4, hx4, hn4, hb4⟩; have K4 := Lib.hid (K3.out.on hb4 K3.out.lt); have L4 := Lib.hid (L3.out.on hb4 L3.out.lt); have B4 := Lib.hid (below_step B3.out hb4); have O4 := Lib.hid (O3.out.below hb4); have R4 := Lib.hid row4; have X4 := Lib.hid hx4; have S4 := Lib.hid hb4.size; clear hb4 row4 hx4)
            | (at_builtin; (refine wp_appD rfl (.tmp 34) (.tmp 39) rfl wr.heap.size _ [0, 0, 0] rfl (by first | exact O4.out | (have := O4.out; simpa using this)) A4 n4 c4 _ D4 rfl R4.out.none' R4.out.at' R4.out.len R4.out.le (by have := R4.out.small; simp; omega) (by have := S4.out; simp at this; omega) ?_); intro v5 w5 own5 hb5; obtain ⟨A5, cap5, rfl, da5, hc5, hm5, hn5⟩ := own5.form; have K5 := Lib.hid (K4.out.on (hb5.mono (show w.heap.size + 2 ≤ wr.heap.size from by have := L.out.lt; omega)) (by omega)); have L5 := Lib.hid (L4.out.on (hb5.mono (show w.heap.size + 2 ≤ wr.heap.size from by have := L.out.lt; omega)) (by omega)); have B5 := Lib.hid (B4.out.trans (hb5.mono S3.out)); have DA5 := Lib.hid da5; have N5 := Lib.hid hn5; obtain ⟨ll0, ll1, ll2⟩ := L5.out.c3; clear own5 hb5 da5 hn5))
          have R5 := Lib.hid (show Row w5 A5 (D4.length + 1 + 1 + 1) cap5 ([0, 0, 0] ++ D4) from ⟨DA5.out, by simp, by simpa using hc5, hm5, N5.out, by intro d hd; rcases List.mem_append.1 hd with h9 | h9; (simp at h9; omega); exact R4.out.dig d h9, by have := R4.out.len; omega⟩)
          have V5 := Lib.hid (show (Pd.val ([0, 0, 0] ++ D4) : Int) = 1000 * b by
            rw [val_thousand]
            have h9 := X4.out
            cases bl4 with
            | true => simp at h9; omega
            | false => simp at h9; omega)
          refine (CY.out _).mono ?_
          rintro _ w6 ⟨bl6, A6, n6, c6, D6, rfl, row6, hx6, hn6, hb6⟩
          have R6 := Lib.hid (row6.on ((Below.refl _ w6).alloc (Nat.le_refl _) (.cells #[] 3)))
          have R7 := Lib.hid ((R5.out.on hb6).on ((Below.refl _ w6).alloc (Nat.le_refl _) (.cells #[] 3)))
          have V6 := Lib.hid (show (Pd.val D6 : Int) = y by
            cases bl6 with
            | true => simp at hx6; omega
            | false => simp at hx6; omega)
          have K7 := Lib.hid ((K5.out.on hb6 K5.out.lt).alloc (.cells #[] 3))
          have L7 := Lib.hid ((L5.out.on hb6 L5.out.lt).alloc (.cells #[] 3))
          have B7 := Lib.hid (below_box (below_step B5.out hb6) (.cells #[] 3))
          have RN := Lib.hid (show Row (w6.alloc (.cells #[] 3)) (some ⟨w6.heap.size, 0, none⟩) 0 0 [] from ⟨DigsAt.nil _ _ _, rfl, by omega, by omega, fun h => (by cases h), by simp [Pd.Dig], by omega⟩)
          clear row6 hx6 hb6 k0 k1 k2 l0 l1 l2 kk0 kk1 kk2 ll0 ll1 ll2 K3 L3 B3 O3 S3 K4 L4 B4 O4 R4 X4 S4 K5 L5 B5 DA5 N5 CX CY hc5 hm5 R5
          go_wp2_with fail
          generalize w6.alloc (.cells #[] 3) = W1 at *
          go_loopw [7, 10] (TrRel W1 b y) (fun s _ _ => 1000 - (intOf s).toNat)
          case atStart => exact ⟨0, _, 0, 0, [], by omega, rfl, rfl, RN.out, by simp [Pd.val, Pd.V], by simp; omega, by omega, Below.refl _ _⟩
          case round =>
            obtain ⟨k, A8, n8, c8, G, hk, rfl, rfl, rg, hvG, hkv, hn8, bel⟩ := hrel
            have RG := Lib.hid rg
            have VG := Lib.hid hvG
            have BE := Lib.hid bel
            have KV := Lib.hid hkv
            have bc := Lib.hid (Below.refl wr.heap.size wr)
            have CP := Lib.hid fun (W' : World) (h : Below wr.heap.size wr W') => plus_any G D6 A8 A6 n8 c8 n6 c6 (30 + k) W' (RG.out.on h) (R6.out.on (BE.out.trans (h.mono BE.out.size))) (by omega) (by omega) (by omega)
            have CL := Lib.hid fun (W' : World) (A2 : Option Addr) (m2 c2 : Nat) (P : List Nat) (rp : Row W' A2 m2 c2 P) (h : Below wr.heap.size wr W') => less_any ([0, 0, 0] ++ D4) P A5 A2 (D4.length + 1 + 1 + 1) cap5 m2 c2 W' (R7.out.on (BE.out.trans (h.mono BE.out.size))) rp
            have k1v : ((k : Int) + 1) * y = k * y + y := by rw [Int.add_mul, Int.one_mul]
            clear rg hvG bel hkv
            by_cases hk2 : k < 1000
            · have hki : (k : Int) < 1000 := by omega
              by_cases hgo : ((k : Int) + 1) * y ≤ 1000 * b
              · have HLB := Lib.hid (show ∀ P : List Nat, Pd.val P = Pd.val G + Pd.val D6 → lessB ([0, 0, 0] ++ D4) P = false from fun P hP => by
                  have h7 := V5.out; have h8 := V6.out; have h9 := VG.out; unfold lessB; simp only [decide_eq_false_iff_not]; omega)
                have KV2 := Lib.hid hgo
                have K1V := Lib.hid k1v
                clear hgo k1v
                go_wp2_with (first | (go_at_call 48; (with_reducible refine (CP.out _ bc.out).mono ?_); rintro e w' ⟨A2, m2, c2, P, rfl, row, hv, hm, hb⟩; have RP := Lib.hid row; have VP := Lib.hid hv; have MP := Lib.hid hm; have LB := Lib.hid (HLB.out P hv); have bc := Lib.hid (bc.out.trans (hb.mono bc.out.size)); clear row hv hm hb) | (go_at_call 47; (with_reducible refine (CL.out _ A2 m2 c2 P RP.out bc.out).mono ?_); rintro e w' ⟨rfl, rfl⟩; rw [LB.out]))
                go_roundw
                case rel => exact ⟨k + 1, A2, m2, c2, P, by omega, by go_num, rfl, RP.out, by have h7 := V6.out; have h8 := VG.out; have h9 := VP.out; have h6 := K1V.out; push_cast; omega, by have h6 := KV2.out; push_cast; exact h6, by have := MP.out; omega, BE.out.trans (bc.out.mono BE.out.size)⟩
                case measure => simp [intOf]; omega
              · have HLB := Lib.hid (show ∀ P : List Nat, Pd.val P = Pd.val G + Pd.val D6 → lessB ([0, 0, 0] ++ D4) P = true from fun P hP => by
                  have h7 := V5.out; have h8 := V6.out; have h9 := VG.out; unfold lessB; simp only [decide_eq_true_eq]; omega)
                have HQ := Lib.hid (quot_of hv0 KV.out (by omega))
                clear hgo k1v
                by_cases hos : o1 < (k : Int)
                · have hd : decide (o1 < (k : Int)) = true := decide_eq_true hos
                  go_wp2_with (first | (go_at_call 48; (with_reducible refine (CP.out _ bc.out).mono ?_); rintro e w' ⟨A2, m2, c2, P, rfl, row, hv, hm, hb⟩; have RP := Lib.hid row; have VP := Lib.hid hv; have MP := Lib.hid hm; have LB := Lib.hid (HLB.out P hv); have bc := Lib.hid (bc.out.trans (hb.mono bc.out.size)); clear row hv hm hb) | (go_at_call 47; (with_reducible refine (CL.out _ A2 m2 c2 P RP.out bc.out).mono ?_); rintro e w' ⟨rfl, rfl⟩; rw [LB.out]))
                  go_roundw
                  case rel => exact ⟨.inr (.inr (.inl ⟨rfl, by rw [← E2.out, HSH.out, HQ.out]; unfold mx; first | (rw [if_pos hos]) | rfl | (refine congrArg (Value.int IntKind.i64) ?_; split <;> omega) | (exfalso; omega)⟩)), B7.out.trans ((BE.out.trans (bc.out.mono BE.out.size)).mono B7.out.size), K7.out.on (BE.out.trans (bc.out.mono BE.out.size)) K7.out.lt, L7.out.on (BE.out.trans (bc.out.mono BE.out.size)) L7.out.lt⟩
                  case measure => simp [intOf]
                · have hd : decide (o1 < (k : Int)) = false := decide_eq_false hos
                  go_wp2_with (first | (go_at_call 48; (with_reducible refine (CP.out _ bc.out).mono ?_); rintro e w' ⟨A2, m2, c2, P, rfl, row, hv, hm, hb⟩; have RP := Lib.hid row; have VP := Lib.hid hv; have MP := Lib.hid hm; have LB := Lib.hid (HLB.out P hv); have bc := Lib.hid (bc.out.trans (hb.mono bc.out.size)); clear row hv hm hb) | (go_at_call 47; (with_reducible refine (CL.out _ A2 m2 c2 P RP.out bc.out).mono ?_); rintro e w' ⟨rfl, rfl⟩; rw [LB.out]))
                  go_roundw
                  case rel => exact ⟨.inr (.inr (.inl ⟨rfl, by rw [← E2.out, HSH.out, HQ.out]; unfold mx; first | (rw [if_neg hos]) | rfl | (refine congrArg (Value.int IntKind.i64) ?_; split <;> omega) | (exfalso; omega)⟩)), B7.out.trans ((BE.out.trans (bc.out.mono BE.out.size)).mono B7.out.size), K7.out.on (BE.out.trans (bc.out.mono BE.out.size)) K7.out.lt, L7.out.on (BE.out.trans (bc.out.mono BE.out.size)) L7.out.lt⟩
                  case measure => simp [intOf]
            · have hq : 1000 * b / y = k := quot_of hv0 KV.out (by have e9 : (k : Int) = 1000 := (by omega); rw [k1v, e9]; omega)
              have HQ := Lib.hid hq
              have hki : decide ((k : Int) < 1000) = false := by simp; omega
              clear hq k1v
              by_cases hos : o1 < (k : Int)
              · have hd : decide (o1 < (k : Int)) = true := decide_eq_true hos
                go_wp2_with fail
                go_roundw
                case rel => exact ⟨.inr (.inr (.inl ⟨rfl, by rw [← E2.out, HSH.out, HQ.out]; unfold mx; first | (rw [if_pos hos]) | rfl | (refine congrArg (Value.int IntKind.i64) ?_; split <;> omega) | (exfalso; omega)⟩)), B7.out.trans ((BE.out.trans (bc.out.mono BE.out.size)).mono B7.out.size), K7.out.on (BE.out.trans (bc.out.mono BE.out.size)) K7.out.lt, L7.out.on (BE.out.trans (bc.out.mono BE.out.size)) L7.out.lt⟩
                case measure => simp [intOf]
              · have hd : decide (o1 < (k : Int)) = false := decide_eq_false hos
                go_wp2_with fail
                go_roundw
                case rel => exact ⟨.inr (.inr (.inl ⟨rfl, by rw [← E2.out, HSH.out, HQ.out]; unfold mx; first | (rw [if_neg hos]) | rfl | (refine congrArg (Value.int IntKind.i64) ?_; split <;> omega) | (exfalso; omega)⟩)), B7.out.trans ((BE.out.trans (bc.out.mono BE.out.size)).mono B7.out.size), K7.out.on (BE.out.trans (bc.out.mono BE.out.size)) K7.out.lt, L7.out.on (BE.out.trans (bc.out.mono BE.out.size)) L7.out.lt⟩
                case measure => simp [intOf]
    · by_cases hgt : z < c
      · have HSH := Lib.hid (show shr c z = 1000 by unfold shr; rw [if_pos hgt])
        have hdg : decide (z < c) = true := by simpa using hgt
        by_cases hos : o2 < 1000
        · have hd : decide (o2 < 1000) = true := decide_eq_true hos
          go_wp2_with fail
          go_quiet (fail)
          go_wp2_with fail
          go_roundw
          case rel => exact ⟨.inr (.inr (.inr ⟨rfl, by rw [← E3.out, HSH.out]; unfold mx; first | (rw [if_pos hos]) | rfl | (refine congrArg (Value.int IntKind.i64) ?_; split <;> omega) | (exfalso; omega)⟩)), below_drewN B.out _, K.out, L.out⟩
          case measure => simp [intOf]
        · have hd : decide (o2 < 1000) = false := decide_eq_false hos
          go_wp2_with fail
          go_quiet (fail)
          go_wp2_with fail
          go_roundw
          case rel => exact ⟨.inr (.inr (.inr ⟨rfl, by rw [← E3.out, HSH.out]; unfold mx; first | (rw [if_neg hos]) | rfl | (refine congrArg (Value.int IntKind.i64) ?_; split <;> omega) | (exfalso; omega)⟩)), below_drewN B.out _, K.out, L.out⟩
          case measure => simp [intOf]
      · by_cases hz : z = 0
        · have HSH := Lib.hid (show shr c z = 0 by unfold shr; rw [if_neg hgt, if_pos hz])
          have hdg : decide (z < c) = false := by simpa using hgt
          have hdz : decide (0 < z) = false := by simp; omega
          clear hz hgt
          by_cases hos : o2 < (0 : Int)
          · have hd : decide (o2 < (0 : Int)) = true := decide_eq_true hos
            go_wp2_with fail
            go_quiet (fail)
            go_wp2_with fail
            go_roundw
            case rel => exact ⟨.inr (.inr (.inr ⟨rfl, by rw [← E3.out, HSH.out]; unfold mx; first | (rw [if_pos hos]) | rfl | (refine congrArg (Value.int IntKind.i64) ?_; split <;> omega) | (exfalso; omega)⟩)), below_drewN B.out _, K.out, L.out⟩
            case measure => simp [intOf]
          · have hd : decide (o2 < (0 : Int)) = false := decide_eq_false hos
            go_wp2_with fail
            go_quiet (fail)
            go_wp2_with fail
            go_roundw
            case rel => exact ⟨.inr (.inr (.inr ⟨rfl, by rw [← E3.out, HSH.out]; unfold mx; first | (rw [if_neg hos]) | rfl | (refine congrArg (Value.int IntKind.i64) ?_; split <;> omega) | (exfalso; omega)⟩)), below_drewN B.out _, K.out, L.out⟩
            case measure => simp [intOf]
        · have HSH := Lib.hid (show shr c z = 1000 * c / z by unfold shr; rw [if_neg hgt, if_neg hz])
          have hdg : decide (z < c) = false := by simpa using hgt
          have hdz : decide (0 < z) = true := by simp; omega
          have hv0 : 0 < z := by omega
          have hle : c ≤ z := by omega
          clear hz hgt
          have CX := Lib.hid fun W' : World => of_any c W' bc
          have CY := Lib.hid fun W' : World => of_any z W' bz
          go_wp2_with fail
          go_quiet (fail)
          have K3 := Lib.hid ((K.out.drewN' nq).alloc (.cells #[.int .i64 0, .int .i64 0, .int .i64 0] 3))
          have L3 := Lib.hid ((L.out.drewN' nq).alloc (.cells #[.int .i64 0, .int .i64 0, .int .i64 0] 3))
          have B3 := Lib.hid (below_box (below_drewN B.out nq) (.cells #[.int .i64 0, .int .i64 0, .int .i64 0] 3))
          have O3 := Lib.hid (OwnD.three (wr.drewN nq))
          have S3 := Lib.hid B.out.size
          obtain ⟨kk0, kk1, kk2⟩ := K3.out.c3
          go_wp2_with (first
            | (go_at_call 46; (with_reducible refine (CX.out _).mono ?_); rintro e w4 ⟨bl4, A4, n4, c4, D4, rfl, row4, hx4, hn4, hb4⟩; have K4 := Lib.hid (K3.out.on hb4 K3.out.lt); have L4 := Lib.hid (L3.out.on hb4 L3.out.lt); have B4 := Lib.hid (below_step B3.out hb4); have O4 := Lib.hid (O3.out.below hb4); have R4 := Lib.hid row4; have X4 := Lib.hid hx4; have S4 := Lib.hid hb4.size; clear hb4 row4 hx4)
            | (at_builtin; (refine wp_appD rfl (.tmp 34) (.tmp 39) rfl wr.heap.size _ [0, 0, 0] rfl (by first | exact O4.out | (have := O4.out; simpa using this)) A4 n4 c4 _ D4 rfl R4.out.none' R4.out.at' R4.out.len R4.out.le (by have := R4.out.small; simp; omega) (by have := S4.out; simp at this; omega) ?_); intro v5 w5 own5 hb5; obtain ⟨A5, cap5, rfl, da5, hc5, hm5, hn5⟩ := own5.form; have K5 := Lib.hid (K4.out.on (hb5.mono (show w.heap.size + 2 ≤ wr.heap.size from by have := L.out.lt; omega)) (by omega)); have L5 := Lib.hid (L4.out.on (hb5.mono (show w.heap.size + 2 ≤ wr.heap.size from by have := L.out.lt; omega)) (by omega)); have B5 := Lib.hid (B4.out.trans (hb5.mono S3.out)); have DA5 := Lib.hid da5; have N5 := Lib.hid hn5; obtain ⟨ll0, ll1, ll2⟩ := L5.out.c3; clear own5 hb5 da5 hn5))
          have R5 := Lib.hid (show Row w5 A5 (D4.length + 1 + 1 + 1) cap5 ([0, 0, 0] ++ D4) from ⟨DA5.out, by simp, by simpa using hc5, hm5, N5.out, by intro d hd; rcases List.mem_append.1 hd with h9 | h9; (simp at h9; omega); exact R4.out.dig d h9, by have := R4.out.len; omega⟩)
          have V5 := Lib.hid (show (Pd.val ([0, 0, 0] ++ D4) : Int) = 1000 * c by
            rw [val_thousand]
            have h9 := X4.out
            cases bl4 with
            | true => simp at h9; omega
            | false => simp at h9; omega)
          refine (CY.out _).mono ?_
          rintro _ w6 ⟨bl6, A6, n6, c6, D6, rfl, row6, hx6, hn6, hb6⟩
          have R6 := Lib.hid (row6.on ((Below.refl _ w6).alloc (Nat.le_refl _) (.cells #[] 3)))
          have R7 := Lib.hid ((R5.out.on hb6).on ((Below.refl _ w6).alloc (Nat.le_refl _) (.cells #[] 3)))
          have V6 := Lib.hid (show (Pd.val D6 : Int) = z by
            cases bl6 with
            | true => simp at hx6; omega
            | false => simp at hx6; omega)
          have K7 := Lib.hid ((K5.out.on hb6 K5.out.lt).alloc (.cells #[] 3))
          have L7 := Lib.hid ((L5.out.on hb6 L5.out.lt).alloc (.cells #[] 3))
          have B7 := Lib.hid (below_box (below_step B5.out hb6) (.cells #[] 3))
          have RN := Lib.hid (show Row (w6.alloc (.cells #[] 3)) (some ⟨w6.heap.size, 0, none⟩) 0 0 [] from ⟨DigsAt.nil _ _ _, rfl, by omega, by omega, fun h => (by cases h), by simp [Pd.Dig], by omega⟩)
          clear row6 hx6 hb6 k0 k1 k2 l0 l1 l2 kk0 kk1 kk2 ll0 ll1 ll2 K3 L3 B3 O3 S3 K4 L4 B4 O4 R4 X4 S4 K5 L5 B5 DA5 N5 CX CY hc5 hm5 R5
          go_wp2_with fail
          generalize w6.alloc (.cells #[] 3) = W1 at *
          go_loopw [7, 10] (TrRel W1 c z) (fun s _ _ => 1000 - (intOf s).toNat)
          case atStart => exact ⟨0, _, 0, 0, [], by omega, rfl, rfl, RN.out, by simp [Pd.val, Pd.V], by simp; omega, by omega, Below.refl _ _⟩
          case round =>
            obtain ⟨k, A8, n8, c8, G, hk, rfl, rfl, rg, hvG, hkv, hn8, bel⟩ := hrel
            have RG := Lib.hid rg
            have VG := Lib.hid hvG
            have BE := Lib.hid bel
            have KV := Lib.hid hkv
            have bc := Lib.hid (Below.refl wr.heap.size wr)
            have CP := Lib.hid fun (W' : World) (h : Below wr.heap.size wr W') => plus_any G D6 A8 A6 n8 c8 n6 c6 (30 + k) W' (RG.out.on h) (R6.out.on (BE.out.trans (h.mono BE.out.size))) (by omega) (by omega) (by omega)
            have CL := Lib.hid fun (W' : World) (A2 : Option Addr) (m2 c2 : Nat) (P : List Nat) (rp : Row W' A2 m2 c2 P) (h : Below wr.heap.size wr W') => less_any ([0, 0, 0] ++ D4) P A5 A2 (D4.length + 1 + 1 + 1) cap5 m2 c2 W' (R7.out.on (BE.out.trans (h.mono BE.out.size))) rp
            have k1v : ((k : Int) + 1) * z = k * z + z := by rw [Int.add_mul, Int.one_mul]
            clear rg hvG bel hkv
            by_cases hk2 : k < 1000
            · have hki : (k : Int) < 1000 := by omega
              by_cases hgo : ((k : Int) + 1) * z ≤ 1000 * c
              · have HLB := Lib.hid (show ∀ P : List Nat, Pd.val P = Pd.val G + Pd.val D6 → lessB ([0, 0, 0] ++ D4) P = false from fun P hP => by
                  have h7 := V5.out; have h8 := V6.out; have h9 := VG.out; unfold lessB; simp only [decide_eq_false_iff_not]; omega)
                have KV2 := Lib.hid hgo
                have K1V := Lib.hid k1v
                clear hgo k1v
                go_wp2_with (first | (go_at_call 48; (with_reducible refine (CP.out _ bc.out).mono ?_); rintro e w' ⟨A2, m2, c2, P, rfl, row, hv, hm, hb⟩; have RP := Lib.hid row; have VP := Lib.hid hv; have MP := Lib.hid hm; have LB := Lib.hid (HLB.out P hv); have bc := Lib.hid (bc.out.trans (hb.mono bc.out.size)); clear row hv hm hb) | (go_at_call 47; (with_reducible refine (CL.out _ A2 m2 c2 P RP.out bc.out).mono ?_); rintro e w' ⟨rfl, rfl⟩; rw [LB.out]))
                go_roundw
                case rel => exact ⟨k + 1, A2, m2, c2, P, by omega, by go_num, rfl, RP.out, by have h7 := V6.out; have h8 := VG.out; have h9 := VP.out; have h6 := K1V.out; push_cast; omega, by have h6 := KV2.out; push_cast; exact h6, by have := MP.out; omega, BE.out.trans (bc.out.mono BE.out.size)⟩
                case measure => simp [intOf]; omega
              · have HLB := Lib.hid (show ∀ P : List Nat, Pd.val P = Pd.val G + Pd.val D6 → lessB ([0, 0, 0] ++ D4) P = true from fun P hP => by
                  have h7 := V5.out; have h8 := V6.out; have h9 := VG.out; unfold lessB; simp only [decide_eq_true_eq]; omega)
                have HQ := Lib.hid (quot_of hv0 KV.out (by omega))
                clear hgo k1v
                by_cases hos : o2 < (k : Int)
                · have hd : decide (o2 < (k : Int)) = true := decide_eq_true hos
                  go_wp2_with (first | (go_at_call 48; (with_reducible refine (CP.out _ bc.out).mono ?_); rintro e w' ⟨A2, m2, c2, P, rfl, row, hv, hm, hb⟩; have RP := Lib.hid row; have VP := Lib.hid hv; have MP := Lib.hid hm; have LB := Lib.hid (HLB.out P hv); have bc := Lib.hid (bc.out.trans (hb.mono bc.out.size)); clear row hv hm hb) | (go_at_call 47; (with_reducible refine (CL.out _ A2 m2 c2 P RP.out bc.out).mono ?_); rintro e w' ⟨rfl, rfl⟩; rw [LB.out]))
                  go_roundw
                  case rel => exact ⟨.inr (.inr (.inr ⟨rfl, by rw [← E3.out, HSH.out, HQ.out]; unfold mx; first | (rw [if_pos hos]) | rfl | (refine congrArg (Value.int IntKind.i64) ?_; split <;> omega) | (exfalso; omega)⟩)), B7.out.trans ((BE.out.trans (bc.out.mono BE.out.size)).mono B7.out.size), K7.out.on (BE.out.trans (bc.out.mono BE.out.size)) K7.out.lt, L7.out.on (BE.out.trans (bc.out.mono BE.out.size)) L7.out.lt⟩
                  case measure => simp [intOf]
                · have hd : decide (o2 < (k : Int)) = false := decide_eq_false hos
                  go_wp2_with (first | (go_at_call 48; (with_reducible refine (CP.out _ bc.out).mono ?_); rintro e w' ⟨A2, m2, c2, P, rfl, row, hv, hm, hb⟩; have RP := Lib.hid row; have VP := Lib.hid hv; have MP := Lib.hid hm; have LB := Lib.hid (HLB.out P hv); have bc := Lib.hid (bc.out.trans (hb.mono bc.out.size)); clear row hv hm hb) | (go_at_call 47; (with_reducible refine (CL.out _ A2 m2 c2 P RP.out bc.out).mono ?_); rintro e w' ⟨rfl, rfl⟩; rw [LB.out]))
                  go_roundw
                  case rel => exact ⟨.inr (.inr (.inr ⟨rfl, by rw [← E3.out, HSH.out, HQ.out]; unfold mx; first | (rw [if_neg hos]) | rfl | (refine congrArg (Value.int IntKind.i64) ?_; split <;> omega) | (exfalso; omega)⟩)), B7.out.trans ((BE.out.trans (bc.out.mono BE.out.size)).mono B7.out.size), K7.out.on (BE.out.trans (bc.out.mono BE.out.size)) K7.out.lt, L7.out.on (BE.out.trans (bc.out.mono BE.out.size)) L7.out.lt⟩
                  case measure => simp [intOf]
            · have hq : 1000 * c / z = k := quot_of hv0 KV.out (by have e9 : (k : Int) = 1000 := (by omega); rw [k1v, e9]; omega)
              have HQ := Lib.hid hq
              have hki : decide ((k : Int) < 1000) = false := by simp; omega
              clear hq k1v
              by_cases hos : o2 < (k : Int)
              · have hd : decide (o2 < (k : Int)) = true := decide_eq_true hos
                go_wp2_with fail
                go_roundw
                case rel => exact ⟨.inr (.inr (.inr ⟨rfl, by rw [← E3.out, HSH.out, HQ.out]; unfold mx; first | (rw [if_pos hos]) | rfl | (refine congrArg (Value.int IntKind.i64) ?_; split <;> omega) | (exfalso; omega)⟩)), B7.out.trans ((BE.out.trans (bc.out.mono BE.out.size)).mono B7.out.size), K7.out.on (BE.out.trans (bc.out.mono BE.out.size)) K7.out.lt, L7.out.on (BE.out.trans (bc.out.mono BE.out.size)) L7.out.lt⟩
                case measure => simp [intOf]
              · have hd : decide (o2 < (k : Int)) = false := decide_eq_false hos
                go_wp2_with fail
                go_roundw
                case rel => exact ⟨.inr (.inr (.inr ⟨rfl, by rw [← E3.out, HSH.out, HQ.out]; unfold mx; first | (rw [if_neg hos]) | rfl | (refine congrArg (Value.int IntKind.i64) ?_; split <;> omega) | (exfalso; omega)⟩)), B7.out.trans ((BE.out.trans (bc.out.mono BE.out.size)).mono B7.out.size), K7.out.on (BE.out.trans (bc.out.mono BE.out.size)) K7.out.lt, L7.out.on (BE.out.trans (bc.out.mono BE.out.size)) L7.out.lt⟩
                case measure => simp [intOf]
    · go_wp2_with fail
      go_ret
      exact ⟨by rw [HF.out]; rfl, B.out⟩
end Go.Proofs.Ytjpnkecfoealoaa.Vc
