import Derived.Test.YtcmjehjjlbhlmaaLSno
namespace Go.Proofs.Ytcmjehjjlbhlmaa
open Go.RowKit
set_option linter.unusedVariables false
/-- the head of a loop over three places that gathers a bool: g0 .. g3 before each place; the three Vecs lie where they lay -/
def LR (w : World) (a b c x y z p q r : Int) (g0 g1 g2 g3 : Bool) (v i : Value) (W : World) : Prop :=
  ((i = .int .i64 0 ∧ v = .bool g0) ∨ (i = .int .i64 1 ∧ v = .bool g1) ∨ (i = .int .i64 2 ∧ v = .bool g2) ∨ (i = .int .i64 3 ∧ v = .bool g3)) ∧
  Below w.heap.size w W ∧ BK W w.heap.size a b c ∧ BK W (w.heap.size + 1) x y z ∧ BK W (w.heap.size + 1 + 1) p q r
theorem wh_t {a x : Int} (h1 : x ≤ a) (h2 : 0 < a) : wh a x = true := wh_iff.2 ⟨h1, h2⟩
theorem wh_f1 {a x : Int} (h : ¬ x ≤ a) : wh a x = false := by simp [wh]; omega
theorem wh_f2 {a x : Int} (h : ¬ 0 < a) : wh a x = false := by simp [wh]; omega
theorem BK.drewN {W : World} {b : Nat} {x y z : Int} (h : BK W b x y z) (n : Nat) : BK (W.drewN n) b x y z := h
set_option maxHeartbeats 4000000 in
theorem law_share_yes (a b c x y z p q r : Int) (w : World) (ba : I64 a) (bb : I64 b) (bc : I64 c) (bx : I64 x) (by' : I64 y) (bz : I64 z) (bp : I64 p) (bq : I64 q) (br : I64 r) (h1 : fitB 0 0 0 a b c = true) (h2 : fitB 0 0 0 x y z = true) (h3 : fitB 0 0 0 p q r = true) :
    Calls Try.prog 7 #[.agg #[.int .i64 a, .int .i64 b, .int .i64 c], .agg #[.int .i64 x, .int .i64 y, .int .i64 z], .agg #[.int .i64 p, .int .i64 q, .int .i64 r]] w (RetBelow (.bool true) w) := by
  obtain ⟨na, nb, nc⟩ := may_iff.1 h1
  obtain ⟨nx, ny, nz⟩ := may_iff.1 h2
  obtain ⟨np, nq, nr⟩ := may_iff.1 h3
  have t1 : ∀ W : World, Calls Try.prog 19 #[.agg #[.int .i64 a, .int .i64 b, .int .i64 c], .agg #[.int .i64 x, .int .i64 y, .int .i64 z]] W (RetBelow (.int .i64 (shV a b c x y z)) W) := fun W => by
    have := share_any a b c x y z W ba bb bc bx by' bz
    rwa [show shA a b c x y z = shV a b c x y z from by unfold shA; rw [h1, h2]; rfl] at this
  have t2 : ∀ W : World, Calls Try.prog 19 #[.agg #[.int .i64 p, .int .i64 q, .int .i64 r], .agg #[.int .i64 x, .int .i64 y, .int .i64 z]] W (RetBelow (.int .i64 (shV p q r x y z)) W) := fun W => by
    have := share_any p q r x y z W bp bq br bx by' bz
    rwa [show shA p q r x y z = shV p q r x y z from by unfold shA; rw [h3, h2]; rfl] at this
  have t3 : ∀ W : World, Calls Try.prog 19 #[.agg #[.int .i64 a, .int .i64 b, .int .i64 c], .agg #[.int .i64 p, .int .i64 q, .int .i64 r]] W (RetBelow (.int .i64 (shV a b c p q r)) W) := fun W => by
    have := share_any a b c p q r W ba bb bc bp bq br
    rwa [show shA a b c p q r = shV a b c p q r from by unfold shA; rw [h1, h3]; rfl] at this
  have s0 := (le_shV a b c x y z).1
  have s1 : shV a b c x y z ≤ 1000 := shV_le (by omega) (shr_bd a x na nx).2 (shr_bd b y nb ny).2 (shr_bd c z nc nz).2
  have hw := shV_whole na nb nc nx ny nz
  have m1 : fitB a b c p q r = true → shV a b c x y z ≤ shV p q r x y z := fun h => by
    obtain ⟨e1, e2, e3⟩ := fit_iff3.1 h
    have l := le_shV p q r x y z
    exact shV_le l.1 (Int.le_trans (shr_mono a x p na nx e1) l.2.1) (Int.le_trans (shr_mono b y q nb ny e2) l.2.2.1) (Int.le_trans (shr_mono c z r nc nz e3) l.2.2.2)
  have m2 : fitB p q r x y z = true → (p == 0 || q == 0 || r == 0) = false → shV a b c x y z ≤ shV a b c p q r := fun h hz => by
    obtain ⟨e1, e2, e3⟩ := fit_iff3.1 h
    simp at hz
    have l := le_shV a b c p q r
    exact shV_le l.1 (Int.le_trans (shr_down a x p na nx (by omega) e1) l.2.1) (Int.le_trans (shr_down b y q nb ny (by omega) e2) l.2.2.1) (Int.le_trans (shr_down c z r nc nz (by omega) e3) l.2.2.2)
  clear ba bb bc bx by' bz bp bq br na nb nc nx ny nz np nq nr
  generalize shV a b c x y z = S1 at *
  generalize shV p q r x y z = S2 at *
  generalize shV a b c p q r = S3 at *
  have T1 := Lib.hid t1
  have T2 := Lib.hid t2
  have T3 := Lib.hid t3
  have Mo1 := Lib.hid m1
  have Mo2 := Lib.hid m2
  clear t1 t2 t3 m1 m2
  obtain ⟨g1, hg1⟩ : ∃ g, wh a x = g := ⟨_, rfl⟩
  obtain ⟨g2, hg2⟩ : ∃ g, (wh a x || wh b y) = g := ⟨_, rfl⟩
  obtain ⟨g3, hg3⟩ : ∃ g, (wh a x || wh b y || wh c z) = g := ⟨_, rfl⟩
  rw [hg3] at hw
  have G1 := Lib.hid hg1
  have G2 := Lib.hid hg2
  have G3 := Lib.hid hg3
  have HW := Lib.hid hw
  clear hg1 hg2 hg3 hw
  have K := ((BK.new w a b c).alloc (.cells #[.int .i64 x, .int .i64 y, .int .i64 z] 23)).alloc (.cells #[.int .i64 p, .int .i64 q, .int .i64 r] 23)
  have L := (BK.new (w.alloc (.cells #[.int .i64 a, .int .i64 b, .int .i64 c] 23)) x y z).alloc (.cells #[.int .i64 p, .int .i64 q, .int .i64 r] 23)
  have M := BK.new ((w.alloc (.cells #[.int .i64 a, .int .i64 b, .int .i64 c] 23)).alloc (.cells #[.int .i64 x, .int .i64 y, .int .i64 z] 23)) p q r
  have B : Below w.heap.size w (((w.alloc (.cells #[.int .i64 a, .int .i64 b, .int .i64 c] 23)).alloc (.cells #[.int .i64 x, .int .i64 y, .int .i64 z] 23)).alloc (.cells #[.int .i64 p, .int .i64 q, .int .i64 r] 23)) := (((Below.refl _ _).alloc (Nat.le_refl _) _).alloc (by simp) _).alloc (by simp; omega) _
  simp only [World.size_alloc] at K L M
  have K := Lib.hid K
  have L := Lib.hid L
  have M := Lib.hid M
  have B := Lib.hid B
  have aw := Lib.hid fun W : World => awake_any W
  go_enter Try.func7, Try.ntmps7
  go_wp2_with fail
  refine (aw.out _).mono ?_
  rintro _ v1 ⟨rfl, hb⟩
  have B := Lib.hid (below_step B.out hb)
  have K := Lib.hid (K.out.on hb K.out.lt)
  have L := Lib.hid (L.out.on hb L.out.lt)
  have M := Lib.hid (M.out.on hb M.out.lt)
  clear hb
  obtain ⟨K0, K1, K2⟩ := K.out.c3
  obtain ⟨L0, L1, L2⟩ := L.out.c3
  obtain ⟨M0, M1, M2⟩ := M.out.c3
  go_wp2_with (first | (go_at_call 15; refine (may_any _ _ _ _).mono ?_; rintro _ w' ⟨rfl, hb⟩; have B := Lib.hid (below_step B.out hb); have K := Lib.hid (K.out.on hb K.out.lt); have L := Lib.hid (L.out.on hb L.out.lt); have M := Lib.hid (M.out.on hb M.out.lt); clear hb; obtain ⟨K0, K1, K2⟩ := K.out.c3; obtain ⟨L0, L1, L2⟩ := L.out.c3; obtain ⟨M0, M1, M2⟩ := M.out.c3) | (go_at_call 19; refine (T1.out _).mono ?_; rintro _ w' ⟨rfl, hb⟩; have B := Lib.hid (below_step B.out hb); have K := Lib.hid (K.out.on hb K.out.lt); have L := Lib.hid (L.out.on hb L.out.lt); have M := Lib.hid (M.out.on hb M.out.lt); clear hb; obtain ⟨K0, K1, K2⟩ := K.out.c3; obtain ⟨L0, L1, L2⟩ := L.out.c3; obtain ⟨M0, M1, M2⟩ := M.out.c3))
  have hd1 : decide (S1 < 0) = false := by simpa using s0
  have hd2 : decide (1000 < S1) = false := by simpa using s1
  go_loopw [8, 38] (LR w a b c x y z p q r false g1 g2 g3) (fun _ i _ => 3 - (intOf i).toNat)
  case atStart => exact ⟨.inl ⟨rfl, rfl⟩, B.out, K.out, L.out, M.out⟩
  case round =>
    clear K0 K1 K2 L0 L1 L2 M0 M1 M2 B K L M
    obtain ⟨hk, B, K, L, M⟩ := hrel
    have B := Lib.hid B
    have K := Lib.hid K
    have L := Lib.hid L
    have M := Lib.hid M
    obtain ⟨K0, K1, K2⟩ := K.out.c3
    obtain ⟨L0, L1, L2⟩ := L.out.c3
    rcases hk with ⟨rfl, rfl⟩ | ⟨rfl, rfl⟩ | ⟨rfl, rfl⟩ | ⟨rfl, rfl⟩
    · by_cases hc : x ≤ a
      · have hd : decide (x ≤ a) = true := by simpa using hc
        by_cases hp : 0 < a
        · have hdp : decide (0 < a) = true := by simpa using hp
          have E := Lib.hid (show g1 = true by rw [← G1.out, wh_t hc hp])
          clear hc hp
          go_wp2_with fail
          go_quiet (fail)
          go_wp2_with fail
          go_roundw
          case rel => exact ⟨.inr (.inl ⟨rfl, by rw [show g1 = true from E.out]⟩), below_drewN B.out _, K.out, L.out, M.out⟩
          case measure => simp [intOf]
        · have hdp : decide (0 < a) = false := by simpa using hp
          have E := Lib.hid (show g1 = false by rw [← G1.out, wh_f2 hp])
          clear hc hp
          go_wp2_with fail
          go_quiet (fail)
          go_wp2_with fail
          go_roundw
          case rel => exact ⟨.inr (.inl ⟨rfl, by rw [show g1 = false from E.out]⟩), below_drewN B.out _, K.out, L.out, M.out⟩
          case measure => simp [intOf]
      · have hd : decide (x ≤ a) = false := by simpa using hc
        have E := Lib.hid (show g1 = false by rw [← G1.out, wh_f1 hc])
        clear hc
        go_wp2_with fail
        go_quiet (fail)
        go_wp2_with fail
        go_roundw
        case rel => exact ⟨.inr (.inl ⟨rfl, by rw [show g1 = false from E.out]⟩), below_drewN B.out _, K.out, L.out, M.out⟩
        case measure => simp [intOf]
    · cases hg : g1 with
      | true =>
        have E := Lib.hid (show g2 = true by rw [← G2.out]; have hv := G1.out; rw [hg] at hv; rw [hv]; rfl)
        go_wp2_with fail
        go_quiet (fail)
        go_wp2_with fail
        go_roundw
        case rel => exact ⟨.inr (.inr (.inl ⟨rfl, by rw [show g2 = true from E.out]⟩)), below_drewN B.out _, K.out, L.out, M.out⟩
        case measure => simp [intOf]
      | false =>
        have hprev := G1.out
        rw [hg] at hprev
        have HP := Lib.hid hprev
        clear hprev
        by_cases hc : y ≤ b
        · have hd : decide (y ≤ b) = true := by simpa using hc
          by_cases hp : 0 < b
          · have hdp : decide (0 < b) = true := by simpa using hp
            have E := Lib.hid (show g2 = true by rw [← G2.out, HP.out, wh_t hc hp]; rfl)
            clear hc hp
            go_wp2_with fail
            go_quiet (fail)
            go_wp2_with fail
            go_roundw
            case rel => exact ⟨.inr (.inr (.inl ⟨rfl, by rw [show g2 = true from E.out]⟩)), below_drewN B.out _, K.out, L.out, M.out⟩
            case measure => simp [intOf]
          · have hdp : decide (0 < b) = false := by simpa using hp
            have E := Lib.hid (show g2 = false by rw [← G2.out, HP.out, wh_f2 hp]; rfl)
            clear hc hp
            go_wp2_with fail
            go_quiet (fail)
            go_wp2_with fail
            go_roundw
            case rel => exact ⟨.inr (.inr (.inl ⟨rfl, by rw [show g2 = false from E.out]⟩)), below_drewN B.out _, K.out, L.out, M.out⟩
            case measure => simp [intOf]
        · have hd : decide (y ≤ b) = false := by simpa using hc
          have E := Lib.hid (show g2 = false by rw [← G2.out, HP.out, wh_f1 hc]; rfl)
          clear hc
          go_wp2_with fail
          go_quiet (fail)
          go_wp2_with fail
          go_roundw
          case rel => exact ⟨.inr (.inr (.inl ⟨rfl, by rw [show g2 = false from E.out]⟩)), below_drewN B.out _, K.out, L.out, M.out⟩
          case measure => simp [intOf]
    · cases hg : g2 with
      | true =>
        have E := Lib.hid (show g3 = true by rw [← G3.out]; have hv := G2.out; rw [hg] at hv; rw [hv]; rfl)
        go_wp2_with fail
        go_quiet (fail)
        go_wp2_with fail
        go_roundw
        case rel => exact ⟨.inr (.inr (.inr ⟨rfl, by rw [show g3 = true from E.out]⟩)), below_drewN B.out _, K.out, L.out, M.out⟩
        case measure => simp [intOf]
      | false =>
        have hprev := G2.out
        rw [hg] at hprev
        have HP := Lib.hid hprev
        clear hprev
        by_cases hc : z ≤ c
        · have hd : decide (z ≤ c) = true := by simpa using hc
          by_cases hp : 0 < c
          · have hdp : decide (0 < c) = true := by simpa using hp
            have E := Lib.hid (show g3 = true by rw [← G3.out, HP.out, wh_t hc hp]; rfl)
            clear hc hp
            go_wp2_with fail
            go_quiet (fail)
            go_wp2_with fail
            go_roundw
            case rel => exact ⟨.inr (.inr (.inr ⟨rfl, by rw [show g3 = true from E.out]⟩)), below_drewN B.out _, K.out, L.out, M.out⟩
            case measure => simp [intOf]
          · have hdp : decide (0 < c) = false := by simpa using hp
            have E := Lib.hid (show g3 = false by rw [← G3.out, HP.out, wh_f2 hp]; rfl)
            clear hc hp
            go_wp2_with fail
            go_quiet (fail)
            go_wp2_with fail
            go_roundw
            case rel => exact ⟨.inr (.inr (.inr ⟨rfl, by rw [show g3 = false from E.out]⟩)), below_drewN B.out _, K.out, L.out, M.out⟩
            case measure => simp [intOf]
        · have hd : decide (z ≤ c) = false := by simpa using hc
          have E := Lib.hid (show g3 = false by rw [← G3.out, HP.out, wh_f1 hc]; rfl)
          clear hc
          go_wp2_with fail
          go_quiet (fail)
          go_wp2_with fail
          go_roundw
          case rel => exact ⟨.inr (.inr (.inr ⟨rfl, by rw [show g3 = false from E.out]⟩)), below_drewN B.out _, K.out, L.out, M.out⟩
          case measure => simp [intOf]
    · clear G1 G2 G3
      have hw := HW.out
      obtain ⟨M0, M1, M2⟩ := M.out.c3
      obtain ⟨z1, hz1⟩ : ∃ g, (p == 0) = g := ⟨_, rfl⟩
      obtain ⟨z2, hz2⟩ : ∃ g, (p == 0 || q == 0) = g := ⟨_, rfl⟩
      obtain ⟨z3, hz3⟩ : ∃ g, (p == 0 || q == 0 || r == 0) = g := ⟨_, rfl⟩
      have Z1 := Lib.hid hz1
      have Z2 := Lib.hid hz2
      have Z3 := Lib.hid hz3
      clear hz1 hz2 hz3
      cases hac : fitB a b c p q r with
      | false =>
        go_wp2_with (go_at_call 17; refine (fits_any _ _ _ _ _ _ _).mono ?_; rintro _ w' ⟨rfl, hb⟩; have B := Lib.hid (below_step B.out hb); have K := Lib.hid (K.out.on hb K.out.lt); have L := Lib.hid (L.out.on hb L.out.lt); have M := Lib.hid (M.out.on hb M.out.lt); clear hb; obtain ⟨K0, K1, K2⟩ := K.out.c3; obtain ⟨L0, L1, L2⟩ := L.out.c3; obtain ⟨M0, M1, M2⟩ := M.out.c3)
        go_loopw [10, 80] (LR w a b c x y z p q r false z1 z2 z3) (fun _ i _ => 3 - (intOf i).toNat)
        case atStart => exact ⟨.inl ⟨rfl, rfl⟩, B.out, K.out, L.out, M.out⟩
        case round =>
          clear K0 K1 K2 L0 L1 L2 M0 M1 M2 B K L M
          obtain ⟨hk, B, K, L, M⟩ := hrel
          have B := Lib.hid B
          have K := Lib.hid K
          have L := Lib.hid L
          have M := Lib.hid M
          obtain ⟨K0, K1, K2⟩ := K.out.c3
          obtain ⟨L0, L1, L2⟩ := L.out.c3
          obtain ⟨M0, M1, M2⟩ := M.out.c3
          rcases hk with ⟨rfl, rfl⟩ | ⟨rfl, rfl⟩ | ⟨rfl, rfl⟩ | ⟨rfl, rfl⟩
          · cases hz : (p == 0) with
            | true =>
              have E := Lib.hid (show z1 = true by rw [← Z1.out, hz])
              go_wp2_with fail
              go_roundw
              case rel => exact ⟨.inr (.inl ⟨rfl, by rw [show z1 = true from E.out]⟩), B.out, K.out, L.out, M.out⟩
              case measure => simp [intOf]
            | false =>
              have E := Lib.hid (show z1 = false by rw [← Z1.out, hz])
              go_wp2_with fail
              go_roundw
              case rel => exact ⟨.inr (.inl ⟨rfl, by rw [show z1 = false from E.out]⟩), B.out, K.out, L.out, M.out⟩
              case measure => simp [intOf]
          · cases hg : z1 with
            | true =>
              have E := Lib.hid (show z2 = true by rw [← Z2.out]; have hv := Z1.out; rw [hg] at hv; rw [hv]; rfl)
              go_wp2_with fail
              go_roundw
              case rel => exact ⟨.inr (.inr (.inl ⟨rfl, by rw [show z2 = true from E.out]⟩)), B.out, K.out, L.out, M.out⟩
              case measure => simp [intOf]
            | false =>
              have hprev := Z1.out
              rw [hg] at hprev
              have HP := Lib.hid hprev
              clear hprev
              cases hz : (q == 0) with
              | true =>
                have E := Lib.hid (show z2 = true by rw [← Z2.out, HP.out, hz]; rfl)
                go_wp2_with fail
                go_roundw
                case rel => exact ⟨.inr (.inr (.inl ⟨rfl, by rw [show z2 = true from E.out]⟩)), B.out, K.out, L.out, M.out⟩
                case measure => simp [intOf]
              | false =>
                have E := Lib.hid (show z2 = false by rw [← Z2.out, HP.out, hz]; rfl)
                go_wp2_with fail
                go_roundw
                case rel => exact ⟨.inr (.inr (.inl ⟨rfl, by rw [show z2 = false from E.out]⟩)), B.out, K.out, L.out, M.out⟩
                case measure => simp [intOf]
          · cases hg : z2 with
            | true =>
              have E := Lib.hid (show z3 = true by rw [← Z3.out]; have hv := Z2.out; rw [hg] at hv; rw [hv]; rfl)
              go_wp2_with fail
              go_roundw
              case rel => exact ⟨.inr (.inr (.inr ⟨rfl, by rw [show z3 = true from E.out]⟩)), B.out, K.out, L.out, M.out⟩
              case measure => simp [intOf]
            | false =>
              have hprev := Z2.out
              rw [hg] at hprev
              have HP := Lib.hid hprev
              clear hprev
              cases hz : (r == 0) with
              | true =>
                have E := Lib.hid (show z3 = true by rw [← Z3.out, HP.out, hz]; rfl)
                go_wp2_with fail
                go_roundw
                case rel => exact ⟨.inr (.inr (.inr ⟨rfl, by rw [show z3 = true from E.out]⟩)), B.out, K.out, L.out, M.out⟩
                case measure => simp [intOf]
              | false =>
                have E := Lib.hid (show z3 = false by rw [← Z3.out, HP.out, hz]; rfl)
                go_wp2_with fail
                go_roundw
                case rel => exact ⟨.inr (.inr (.inr ⟨rfl, by rw [show z3 = false from E.out]⟩)), B.out, K.out, L.out, M.out⟩
                case measure => simp [intOf]
          · clear Z1 Z2
            cases hcb : fitB p q r x y z with
            | false =>
              go_wp2_with (first | (go_at_call 17; refine (fits_any _ _ _ _ _ _ _).mono ?_; rintro _ w' ⟨rfl, hb⟩; have B := Lib.hid (below_step B.out hb); have K := Lib.hid (K.out.on hb K.out.lt); have L := Lib.hid (L.out.on hb L.out.lt); have M := Lib.hid (M.out.on hb M.out.lt); clear hb; obtain ⟨K0, K1, K2⟩ := K.out.c3; obtain ⟨L0, L1, L2⟩ := L.out.c3; obtain ⟨M0, M1, M2⟩ := M.out.c3) | (go_at_call 19; refine (T3.out _).mono ?_; rintro _ w' ⟨rfl, hb⟩; have B := Lib.hid (below_step B.out hb); have K := Lib.hid (K.out.on hb K.out.lt); have L := Lib.hid (L.out.on hb L.out.lt); have M := Lib.hid (M.out.on hb M.out.lt); clear hb; obtain ⟨K0, K1, K2⟩ := K.out.c3; obtain ⟨L0, L1, L2⟩ := L.out.c3; obtain ⟨M0, M1, M2⟩ := M.out.c3))
              go_ret
              exact ⟨by first | rfl | simp, B.out⟩
            | true =>
              cases hz : z3 with
              | true =>
                go_wp2_with (first | (go_at_call 17; refine (fits_any _ _ _ _ _ _ _).mono ?_; rintro _ w' ⟨rfl, hb⟩; have B := Lib.hid (below_step B.out hb); have K := Lib.hid (K.out.on hb K.out.lt); have L := Lib.hid (L.out.on hb L.out.lt); have M := Lib.hid (M.out.on hb M.out.lt); clear hb; obtain ⟨K0, K1, K2⟩ := K.out.c3; obtain ⟨L0, L1, L2⟩ := L.out.c3; obtain ⟨M0, M1, M2⟩ := M.out.c3) | (go_at_call 19; refine (T3.out _).mono ?_; rintro _ w' ⟨rfl, hb⟩; have B := Lib.hid (below_step B.out hb); have K := Lib.hid (K.out.on hb K.out.lt); have L := Lib.hid (L.out.on hb L.out.lt); have M := Lib.hid (M.out.on hb M.out.lt); clear hb; obtain ⟨K0, K1, K2⟩ := K.out.c3; obtain ⟨L0, L1, L2⟩ := L.out.c3; obtain ⟨M0, M1, M2⟩ := M.out.c3))
                go_ret
                exact ⟨by first | rfl | simp, B.out⟩
              | false =>
                have hm := Mo2.out hcb (by rw [Z3.out]; exact hz)
                have hd3 : decide (S1 ≤ S3) = true := by simpa using hm
                go_wp2_with (first | (go_at_call 17; refine (fits_any _ _ _ _ _ _ _).mono ?_; rintro _ w' ⟨rfl, hb⟩; have B := Lib.hid (below_step B.out hb); have K := Lib.hid (K.out.on hb K.out.lt); have L := Lib.hid (L.out.on hb L.out.lt); have M := Lib.hid (M.out.on hb M.out.lt); clear hb; obtain ⟨K0, K1, K2⟩ := K.out.c3; obtain ⟨L0, L1, L2⟩ := L.out.c3; obtain ⟨M0, M1, M2⟩ := M.out.c3) | (go_at_call 19; refine (T3.out _).mono ?_; rintro _ w' ⟨rfl, hb⟩; have B := Lib.hid (below_step B.out hb); have K := Lib.hid (K.out.on hb K.out.lt); have L := Lib.hid (L.out.on hb L.out.lt); have M := Lib.hid (M.out.on hb M.out.lt); clear hb; obtain ⟨K0, K1, K2⟩ := K.out.c3; obtain ⟨L0, L1, L2⟩ := L.out.c3; obtain ⟨M0, M1, M2⟩ := M.out.c3))
                go_ret
                refine ⟨?_, B.out⟩
                first | rfl | (rw [hd3]; rfl)
      | true =>
        have hm := Mo1.out hac
        have hd4 : decide (S2 < S1) = false := by simpa using hm
        clear hm
        go_wp2_with (first | (go_at_call 17; refine (fits_any _ _ _ _ _ _ _).mono ?_; rintro _ w' ⟨rfl, hb⟩; have B := Lib.hid (below_step B.out hb); have K := Lib.hid (K.out.on hb K.out.lt); have L := Lib.hid (L.out.on hb L.out.lt); have M := Lib.hid (M.out.on hb M.out.lt); clear hb; obtain ⟨K0, K1, K2⟩ := K.out.c3; obtain ⟨L0, L1, L2⟩ := L.out.c3; obtain ⟨M0, M1, M2⟩ := M.out.c3) | (go_at_call 19; refine (T2.out _).mono ?_; rintro _ w' ⟨rfl, hb⟩; have B := Lib.hid (below_step B.out hb); have K := Lib.hid (K.out.on hb K.out.lt); have L := Lib.hid (L.out.on hb L.out.lt); have M := Lib.hid (M.out.on hb M.out.lt); clear hb; obtain ⟨K0, K1, K2⟩ := K.out.c3; obtain ⟨L0, L1, L2⟩ := L.out.c3; obtain ⟨M0, M1, M2⟩ := M.out.c3))
        go_loopw [10, 80] (LR w a b c x y z p q r false z1 z2 z3) (fun _ i _ => 3 - (intOf i).toNat)
        case atStart => exact ⟨.inl ⟨rfl, rfl⟩, B.out, K.out, L.out, M.out⟩
        case round =>
          clear K0 K1 K2 L0 L1 L2 M0 M1 M2 B K L M
          obtain ⟨hk, B, K, L, M⟩ := hrel
          have B := Lib.hid B
          have K := Lib.hid K
          have L := Lib.hid L
          have M := Lib.hid M
          obtain ⟨K0, K1, K2⟩ := K.out.c3
          obtain ⟨L0, L1, L2⟩ := L.out.c3
          obtain ⟨M0, M1, M2⟩ := M.out.c3
          rcases hk with ⟨rfl, rfl⟩ | ⟨rfl, rfl⟩ | ⟨rfl, rfl⟩ | ⟨rfl, rfl⟩
          · cases hz : (p == 0) with
            | true =>
              have E := Lib.hid (show z1 = true by rw [← Z1.out, hz])
              go_wp2_with fail
              go_roundw
              case rel => exact ⟨.inr (.inl ⟨rfl, by rw [show z1 = true from E.out]⟩), B.out, K.out, L.out, M.out⟩
              case measure => simp [intOf]
            | false =>
              have E := Lib.hid (show z1 = false by rw [← Z1.out, hz])
              go_wp2_with fail
              go_roundw
              case rel => exact ⟨.inr (.inl ⟨rfl, by rw [show z1 = false from E.out]⟩), B.out, K.out, L.out, M.out⟩
              case measure => simp [intOf]
          · cases hg : z1 with
            | true =>
              have E := Lib.hid (show z2 = true by rw [← Z2.out]; have hv := Z1.out; rw [hg] at hv; rw [hv]; rfl)
              go_wp2_with fail
              go_roundw
              case rel => exact ⟨.inr (.inr (.inl ⟨rfl, by rw [show z2 = true from E.out]⟩)), B.out, K.out, L.out, M.out⟩
              case measure => simp [intOf]
            | false =>
              have hprev := Z1.out
              rw [hg] at hprev
              have HP := Lib.hid hprev
              clear hprev
              cases hz : (q == 0) with
              | true =>
                have E := Lib.hid (show z2 = true by rw [← Z2.out, HP.out, hz]; rfl)
                go_wp2_with fail
                go_roundw
                case rel => exact ⟨.inr (.inr (.inl ⟨rfl, by rw [show z2 = true from E.out]⟩)), B.out, K.out, L.out, M.out⟩
                case measure => simp [intOf]
              | false =>
                have E := Lib.hid (show z2 = false by rw [← Z2.out, HP.out, hz]; rfl)
                go_wp2_with fail
                go_roundw
                case rel => exact ⟨.inr (.inr (.inl ⟨rfl, by rw [show z2 = false from E.out]⟩)), B.out, K.out, L.out, M.out⟩
                case measure => simp [intOf]
          · cases hg : z2 with
            | true =>
              have E := Lib.hid (show z3 = true by rw [← Z3.out]; have hv := Z2.out; rw [hg] at hv; rw [hv]; rfl)
              go_wp2_with fail
              go_roundw
              case rel => exact ⟨.inr (.inr (.inr ⟨rfl, by rw [show z3 = true from E.out]⟩)), B.out, K.out, L.out, M.out⟩
              case measure => simp [intOf]
            | false =>
              have hprev := Z2.out
              rw [hg] at hprev
              have HP := Lib.hid hprev
              clear hprev
              cases hz : (r == 0) with
              | true =>
                have E := Lib.hid (show z3 = true by rw [← Z3.out, HP.out, hz]; rfl)
                go_wp2_with fail
                go_roundw
                case rel => exact ⟨.inr (.inr (.inr ⟨rfl, by rw [show z3 = true from E.out]⟩)), B.out, K.out, L.out, M.out⟩
                case measure => simp [intOf]
              | false =>
                have E := Lib.hid (show z3 = false by rw [← Z3.out, HP.out, hz]; rfl)
                go_wp2_with fail
                go_roundw
                case rel => exact ⟨.inr (.inr (.inr ⟨rfl, by rw [show z3 = false from E.out]⟩)), B.out, K.out, L.out, M.out⟩
                case measure => simp [intOf]
          · clear Z1 Z2
            cases hcb : fitB p q r x y z with
            | false =>
              go_wp2_with (first | (go_at_call 17; refine (fits_any _ _ _ _ _ _ _).mono ?_; rintro _ w' ⟨rfl, hb⟩; have B := Lib.hid (below_step B.out hb); have K := Lib.hid (K.out.on hb K.out.lt); have L := Lib.hid (L.out.on hb L.out.lt); have M := Lib.hid (M.out.on hb M.out.lt); clear hb; obtain ⟨K0, K1, K2⟩ := K.out.c3; obtain ⟨L0, L1, L2⟩ := L.out.c3; obtain ⟨M0, M1, M2⟩ := M.out.c3) | (go_at_call 19; refine (T3.out _).mono ?_; rintro _ w' ⟨rfl, hb⟩; have B := Lib.hid (below_step B.out hb); have K := Lib.hid (K.out.on hb K.out.lt); have L := Lib.hid (L.out.on hb L.out.lt); have M := Lib.hid (M.out.on hb M.out.lt); clear hb; obtain ⟨K0, K1, K2⟩ := K.out.c3; obtain ⟨L0, L1, L2⟩ := L.out.c3; obtain ⟨M0, M1, M2⟩ := M.out.c3))
              go_ret
              exact ⟨by first | rfl | simp, B.out⟩
            | true =>
              cases hz : z3 with
              | true =>
                go_wp2_with (first | (go_at_call 17; refine (fits_any _ _ _ _ _ _ _).mono ?_; rintro _ w' ⟨rfl, hb⟩; have B := Lib.hid (below_step B.out hb); have K := Lib.hid (K.out.on hb K.out.lt); have L := Lib.hid (L.out.on hb L.out.lt); have M := Lib.hid (M.out.on hb M.out.lt); clear hb; obtain ⟨K0, K1, K2⟩ := K.out.c3; obtain ⟨L0, L1, L2⟩ := L.out.c3; obtain ⟨M0, M1, M2⟩ := M.out.c3) | (go_at_call 19; refine (T3.out _).mono ?_; rintro _ w' ⟨rfl, hb⟩; have B := Lib.hid (below_step B.out hb); have K := Lib.hid (K.out.on hb K.out.lt); have L := Lib.hid (L.out.on hb L.out.lt); have M := Lib.hid (M.out.on hb M.out.lt); clear hb; obtain ⟨K0, K1, K2⟩ := K.out.c3; obtain ⟨L0, L1, L2⟩ := L.out.c3; obtain ⟨M0, M1, M2⟩ := M.out.c3))
                go_ret
                exact ⟨by first | rfl | simp, B.out⟩
              | false =>
                have hm := Mo2.out hcb (by rw [Z3.out]; exact hz)
                have hd3 : decide (S1 ≤ S3) = true := by simpa using hm
                go_wp2_with (first | (go_at_call 17; refine (fits_any _ _ _ _ _ _ _).mono ?_; rintro _ w' ⟨rfl, hb⟩; have B := Lib.hid (below_step B.out hb); have K := Lib.hid (K.out.on hb K.out.lt); have L := Lib.hid (L.out.on hb L.out.lt); have M := Lib.hid (M.out.on hb M.out.lt); clear hb; obtain ⟨K0, K1, K2⟩ := K.out.c3; obtain ⟨L0, L1, L2⟩ := L.out.c3; obtain ⟨M0, M1, M2⟩ := M.out.c3) | (go_at_call 19; refine (T3.out _).mono ?_; rintro _ w' ⟨rfl, hb⟩; have B := Lib.hid (below_step B.out hb); have K := Lib.hid (K.out.on hb K.out.lt); have L := Lib.hid (L.out.on hb L.out.lt); have M := Lib.hid (M.out.on hb M.out.lt); clear hb; obtain ⟨K0, K1, K2⟩ := K.out.c3; obtain ⟨L0, L1, L2⟩ := L.out.c3; obtain ⟨M0, M1, M2⟩ := M.out.c3))
                go_ret
                refine ⟨?_, B.out⟩
                first | rfl | (rw [hd3]; rfl)
theorem law_share (a b c x y z p q r : Int) (w : World) (ba : I64 a) (bb : I64 b) (bc : I64 c) (bx : I64 x) (by' : I64 y) (bz : I64 z) (bp : I64 p) (bq : I64 q) (br : I64 r) :
    Calls Try.prog 7 #[.agg #[.int .i64 a, .int .i64 b, .int .i64 c], .agg #[.int .i64 x, .int .i64 y, .int .i64 z], .agg #[.int .i64 p, .int .i64 q, .int .i64 r]] w (RetBelow (.bool true) w) := by
  cases h1 : fitB 0 0 0 a b c with
  | false => exact law_share_no a b c x y z p q r w ba bb bc bx by' bz (.inl h1)
  | true =>
    cases h2 : fitB 0 0 0 x y z with
    | false => exact law_share_no a b c x y z p q r w ba bb bc bx by' bz (.inr ⟨h1, .inl h2⟩)
    | true =>
      cases h3 : fitB 0 0 0 p q r with
      | false => exact law_share_no a b c x y z p q r w ba bb bc bx by' bz (.inr ⟨h1, .inr ⟨h2, h3⟩⟩)
      | true => exact law_share_yes a b c x y z p q r w ba bb bc bx by' bz bp bq br h1 h2 h3
end Go.Proofs.Ytcmjehjjlbhlmaa
