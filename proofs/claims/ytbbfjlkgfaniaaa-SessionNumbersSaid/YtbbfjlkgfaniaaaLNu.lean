import Derived.Test.YtbbfjlkgfaniaaaAr
namespace Go.Proofs.Ytbbfjlkgfaniaaa
set_option maxRecDepth 20000
open Go.RowKit
open SP
open Go.Proofs.Ytbbfjlkgfaniaaa.Nm (str)
open Wi (RetBelow)
set_option linter.unusedVariables false
theorem int_at {w : World} {A : Option Addr} {L : List Int} (h : Rws DI w w.heap.size A L) {j : Nat} {x : Int} (hx : L[j]? = some x) : ∃ b off, A = some ⟨b, off, none⟩ ∧ ∀ X, Below w.heap.size w X → X.cell? ⟨b, off + j, none⟩ = some (.int .i64 x) ∧ X.cell? ⟨b, off + j * 1, none⟩ = some (.int .i64 x) := by
  obtain ⟨b, off, h1, h2, h3⟩ := h.at_ hx
  have e : DI.m = 1 := rfl
  rw [e] at h3
  refine ⟨b, off, h1, fun X hX => ?_⟩
  have := cellB (h3 0 _ rfl) hX h2
  refine ⟨?_, this⟩
  rw [Nat.mul_one] at this
  exact this
theorem ids_in {T : Tb} (h : Inv T) {m : Nat} {y : Int} (hy : (ids T)[m]? = some y) : 1 ≤ y ∧ y ≤ T.lst := by
  unfold ids at hy
  rw [List.getElem?_map] at hy
  obtain ⟨s, hs, rfl⟩ := Option.map_eq_some_iff.1 hy
  have q := h.all s (List.mem_of_getElem? hs)
  exact ⟨q.id1, q.id2⟩
theorem ids_rise {T : Tb} (h : Inv T) {m : Nat} {z y : Int} (hz : (ids T)[m]? = some z) (hy : (ids T)[m + 1]? = some y) : z < y := by
  have hp := pw_ids.1 h.srt
  obtain ⟨a1, a2⟩ := List.getElem?_eq_some_iff.1 hz
  obtain ⟨b1, b2⟩ := List.getElem?_eq_some_iff.1 hy
  have := (List.pairwise_iff_getElem.1 hp) m (m + 1) a1 b1 (by omega)
  unfold ids at a2 b2
  rw [a2, b2] at this
  exact this
set_option maxHeartbeats 8000000 in
theorem law_numbers (L0 : List SP.Act) (A : Option Addr) (N c0 : Nat) (w : World) (hA : Rws DA w w.heap.size A L0) (hN : L0.length = N) (hX : ∀ x ∈ L0, ActX x) : Calls Try.prog 9 #[.slice A N c0] w (RetBelow (.bool true) w) := by
  have HA := Lib.hid hA
  have HN := Lib.hid hN
  have HX := Lib.hid hX
  have HB := Lib.hid (Below.refl w.heap.size w)
  have HAW := Lib.hid (awake_any w)
  have HNW : Hid (∀ X, Below w.heap.size w X → Calls Try.prog 12 #[] X fun e Y => ∃ b, e = .returned (.pointer (some ⟨b, 0, none⟩)) ∧ LvE w Y b t0 []) := Lib.hid fun X h => new_lv h [] (fun p hp => by cases hp)
  clear hA hX hN
  go_enter Try.func9, Try.ntmps9
  go_wp2_with (first | (go_at_call 11; (with_reducible refine HAW.out.mono ?_); rintro e w0 ⟨rfl, hb⟩; have HB0 := Lib.hid hb; clear hb) | (go_at_call 12; (with_reducible refine (HNW.out _ HB0.out).mono ?_); rintro e w1 ⟨b, rfl, h⟩; have HL0 := Lib.hid h; clear h))
  go_loopw [4, 5, 6, 7, 8, 9, 10] (fun lV iV _ _ _ _ _ wr => ∃ (j : Nat) (T : Tb), iV = .int .i64 (j : Int) ∧ j ≤ N ∧ lV = .int .i64 T.lst ∧ LvE w wr b T [] ∧ T.lst ≤ (j : Int)) (fun _ iV _ _ _ _ _ _ => N - (intOf iV).toNat)
  case atStart => exact ⟨0, t0, rfl, Nat.zero_le _, rfl, HL0.out, Int.le_refl _⟩
  case round =>
    obtain ⟨j, T, rfl, hj, rfl, hi⟩ := hrel
    have HI := Lib.hid hi
    clear hi
    by_cases hgo : j < N ∧ j < 200
    case neg =>
      have hgo' : j < N → ¬ j < 200 := fun a b => hgo ⟨a, b⟩
      clear hgo
      rcases Nat.lt_or_ge j N with hlt | hlt
      · have h2 := hgo' hlt
        have g1 : decide ((j : Int) < (N : Int)) = true := by simp; omega
        have g2 : decide (j < N) = true := by simp; omega
        have g3 : decide ((j : Int) < 200) = false := by simp; omega
        have g4 : decide (j < 200) = false := by simp; omega
        clear hgo' hlt h2
        go_wp2_with fail
        go_ret
        exact ⟨rfl, HI.out.1.bel⟩
      · have g1 : decide ((j : Int) < (N : Int)) = false := by simp; omega
        have g2 : decide (j < N) = false := by simp; omega
        clear hgo' hlt
        go_wp2_with fail
        go_ret
        exact ⟨rfl, HI.out.1.bel⟩
    case pos =>
      obtain ⟨hlt, h200⟩ := hgo
      have g1 : decide ((j : Int) < (N : Int)) = true := by simp; omega
      have g2 : decide (j < N) = true := by simp; omega
      have g3 : decide ((j : Int) < 200) = true := by simp; omega
      have g4 : decide (j < 200) = true := by simp; omega
      have HLT := Lib.hid hlt
      have H200 := Lib.hid h200
      have i1 : (j : Int) < (N : Int) := by omega
      obtain ⟨x, hx⟩ : ∃ x, L0[j]? = some x := ⟨_, List.getElem?_eq_getElem (by have := HN.out; omega)⟩
      obtain ⟨ba, off, hA0, hcells⟩ := act_at HA.out hx
      obtain ⟨hxr, hxe⟩ := HX.out x (List.mem_of_getElem? hx)
      have HPL : Hid (∀ X, LvE w X b T [] → Calls Try.prog 27 #[.pointer (some ⟨b, 0, none⟩), actV x] X fun e Y => e = .returned (.tuple #[]) ∧ LvE w Y b (play T x) []) := Lib.hid fun X h => play_lv h x hxr hxe
      have HRG := Lib.hid fun (X : World) (h : LvE w X b T []) => reg_lv h
      have HID : Hid (∀ X, LvE w X b T [] → Calls Try.prog 30 #[.pointer (some ⟨b, 0, none⟩)] X fun e Y => ∃ A c, e = .returned (.slice A T.L.length c) ∧ LvE w Y b T []) := Lib.hid fun X h => (ids_lv h).mono (by
        rintro e Y ⟨u, rfl, h1, h2, h3⟩
        obtain ⟨A, c, rfl, h4, _⟩ := h1.form
        exact ⟨A, c, by unfold ids; rw [List.length_map], h2⟩)
      obtain ⟨p0, p1, p2, p3, p4, p5, p6, p7, p8, p9⟩ := hcells _ HI.out.1.bel
      have HIT : Hid (Inv T) := Lib.hid HI.out.1.inv
      have HLS := HI.out.2
      clear hcells hx
      rw [hA0]
      by_cases k0 : x.k = 0
      case pos =>
        have f1 : (x.k == 0) = true := by simp [k0]
        by_cases hm : 32 ≤ T.L.length
        case pos =>
          have hreg : reg T = (T, 0, 3) := if_pos (.inl hm)
          rw [hreg] at HRG
          have f2 : decide ((T.L.length : Int) < 32) = false := by simp; omega
          have f3 : decide (T.L.length < 32) = false := by simp; omega
          have HIV := HIT
          have HLE : Hid (T.lst ≤ ((j + 1 : Nat) : Int)) := Lib.hid (by omega)
          have hl0 := HIT.out.l1
          have f4 : max T.lst 0 = T.lst := by omega
          clear hm hreg HLS
          obtain ⟨PT, hPT⟩ : ∃ PT, PT = T := ⟨_, rfl⟩
          subst hPT
          have HIN : Hid (∀ m y, (ids PT)[m]? = some y → 1 ≤ y ∧ y ≤ PT.lst) := Lib.hid fun m y q => ids_in HIV.out q
          have HRS : Hid (∀ m z y, (ids PT)[m]? = some z → (ids PT)[m + 1]? = some y → z < y) := Lib.hid fun m z y q p => ids_rise HIV.out q p
          have HI2 : Hid (∀ X, LvE w X b PT [] → Calls Try.prog 30 #[.pointer (some ⟨b, 0, none⟩)] X fun e Y => ∃ A c, e = .returned (.slice A (ids PT).length c) ∧ Rws DI Y Y.heap.size A (ids PT) ∧ LvE w Y b PT []) := Lib.hid fun X h => (ids_lv h).mono (by
            rintro e Y ⟨u, rfl, h1, h2, h3⟩
            obtain ⟨A, c, rfl, h4, _⟩ := h1.form
            exact ⟨A, c, rfl, h4, h2⟩)
          have HNI : Hid ((ids PT).length ≤ 32) := Lib.hid (by unfold ids; rw [List.length_map]; exact HIV.out.len)
          generalize ids PT = LI at HIN HRS HI2 HNI
          obtain ⟨NI, hNI⟩ : ∃ NI, LI.length = NI := ⟨_, rfl⟩
          have HIL := Lib.hid hNI
          rw [hNI] at HI2 HNI
          clear hNI
          go_wp2_with (first
            | (go_at_call 30; (with_reducible refine (HID.out _ HI.out.1).mono ?_); rintro e w2 ⟨A9, c9, rfl, h⟩; have HL2 := Lib.hid h; clear h)
            | (go_at_call 18; (with_reducible refine (HRG.out _ HL2.out).mono ?_); rintro e w3 ⟨rfl, h⟩; have HL3 := Lib.hid h; clear h HL2)
            | (go_at_call 30; (with_reducible refine (HI2.out _ HL3.out).mono ?_); rintro e w4 ⟨A8, c8, rfl, ho, h⟩; have HO := Lib.hid ho; have HL4 := Lib.hid h; clear h ho HL3))
          go_loopw [10, 78] (fun _ kV wr2 => ∃ (m : Nat), kV = .int .i64 (m : Int) ∧ m ≤ NI ∧ Rws DI wr2 wr2.heap.size A8 LI ∧ LvE w wr2 b PT []) (fun _ kV _ => NI - (intOf kV).toNat)
          case atStart => exact ⟨0, rfl, Nat.zero_le _, HO.out, HL4.out⟩
          case round =>
            obtain ⟨m, rfl, hm, ho, hl⟩ := hrel
            have HOI := Lib.hid ho
            have HLI := Lib.hid hl
            clear ho hl
            by_cases hmn : m < NI
            case neg =>
              have g5 : decide ((m : Int) < (NI : Int)) = false := by simp; omega
              have g6 : decide (m < NI) = false := by simp; omega
              have g7 : decide ((32 : Int) < (NI : Int)) = false := by have := HNI.out; simp; omega
              have g8 : decide (32 < NI) = false := by have := HNI.out; simp; omega
              go_wp2_with fail
              go_roundw
              case rel => exact ⟨j + 1, PT, by go_num, Nat.succ_le_of_lt HLT.out, rfl, HLI.out, HLE.out⟩
              case measure => exact meas_lt HLT.out
            case pos =>
              have HMN := Lib.hid hmn
              have g5 : decide ((m : Int) < (NI : Int)) = true := by simp; omega
              have g6 : decide (m < NI) = true := by simp; omega
              have i2 : (m : Int) < (NI : Int) := by omega
              obtain ⟨y, hy⟩ : ∃ y, LI[m]? = some y := ⟨_, List.getElem?_eq_getElem (by have := HIL.out; omega)⟩
              obtain ⟨bb, oo, hA8, hcy⟩ := int_at HOI.out hy
              obtain ⟨hy1, hy2⟩ := HIN.out m y hy
              have g9 : decide (y < 1) = false := by simp; omega
              have g10 : decide (PT.lst < y) = false := by simp; omega
              have HRO : Hid (∀ n, Rws DI (wr.drewN n) (wr.drewN n).heap.size A8 LI) := Lib.hid fun n => (HOI.out.on (below_drewN (Below.refl _ _) n)).mono (below_drewN (Below.refl wr.heap.size wr) n).size
              have HRL : Hid (∀ n, LvE w (wr.drewN n) b PT []) := Lib.hid fun n => HLI.out.below (below_drewN (Below.refl _ _) n)
              have hN32 := HNI.out
              subst hA8
              rcases Nat.eq_zero_or_pos m with hz0 | hp0
              · subst hz0
                have q0 : wr.cell? ⟨bb, oo, none⟩ = some (.int .i64 y) := (hcy wr (Below.refl _ _)).1
                have q1 : wr.drew.cell? ⟨bb, oo, none⟩ = some (.int .i64 y) := (hcy wr.drew (Below.refl _ _).drew).1
                have i3 : (0 : Int) < (NI : Int) := by omega
                have i4 : 0 < NI := hmn
                clear hcy hy1 hy2 hmn hm i2 g5 g6 hy
                have g5 : decide ((0 : Int) < (NI : Int)) = true := by simp; omega
                go_wp2_with fail
                go_quiet (fail)
                go_wp2_with fail
                go_roundw
                case rel => exact ⟨0 + 1, by go_num, Nat.succ_le_of_lt HMN.out, HRO.out _, HRL.out _⟩
                case measure => exact meas_lt HMN.out
              · obtain ⟨m', hm'⟩ : ∃ m', m = m' + 1 := ⟨m - 1, by omega⟩
                obtain ⟨z, hz⟩ : ∃ z, LI[m']? = some z := ⟨_, List.getElem?_eq_getElem (by have := HIL.out; omega)⟩
                obtain ⟨bb2, oo2, hA9, hcz⟩ := int_at HOI.out hz
                cases hA9
                have hyz := HRS.out m' z y hz (by rw [← hm']; exact hy)
                obtain ⟨q0, q0'⟩ := hcy wr (Below.refl _ _)
                obtain ⟨q1, q1'⟩ := hcy wr.drew (Below.refl _ _).drew
                obtain ⟨s0, s0'⟩ := hcz wr (Below.refl _ _)
                obtain ⟨s1, s1'⟩ := hcz wr.drew (Below.refl _ _).drew
                have hm1 : (m : Int) - 1 = (m' : Int) := by omega
                have i3 : (m' : Int) < (NI : Int) := by omega
                have i4 : m' < 32 := by omega
                have i5 : m < 32 := by omega
                have g11 : decide ((0 : Int) < (m : Int)) = true := by simp; omega
                have g13 : decide (0 < m) = true := by simp; omega
                have g12 : decide (y ≤ z) = false := by simp; omega
                clear hcy hcz hy1 hy2 hyz hm' hz hy q0' q1' s0' s1'
                go_wp2_with fail
                go_quiet (fail)
                go_wp2_with fail
                go_roundw
                case rel => exact ⟨m + 1, by go_num, Nat.succ_le_of_lt HMN.out, HRO.out _, HRL.out _⟩
                case measure => exact meas_lt HMN.out
        case neg =>
          have hreg : reg T = (⟨T.clk, T.lst + 1, T.L ++ [⟨T.lst + 1, 0, r0, T.clk⟩]⟩, T.lst + 1, 0) := if_neg (by have := H200.out; have h9 : M = 4611686018427387904 := rfl; omega)
          have HIV : Hid (Inv (reg T).1) := Lib.hid (inv_reg HIT.out)
          have HLE : Hid ((reg T).1.lst ≤ ((j + 1 : Nat) : Int)) := Lib.hid (by rw [hreg]; dsimp only; omega)
          have HLQ : Hid ((reg T).1.lst = T.lst + 1) := Lib.hid (by rw [hreg])
          have h21 : (reg T).2.1 = T.lst + 1 := by rw [hreg]
          have h22 : (reg T).2.2 = 0 := by rw [hreg]
          rw [h21, h22] at HRG
          have f2 : decide ((T.L.length : Int) < 32) = true := by simp; omega
          have f3 : decide (T.L.length < 32) = true := by simp; omega
          have f4 : max T.lst (T.lst + 1) = T.lst + 1 := by omega
          have hl0 := HIT.out.l1
          have hl9 : T.lst < 200 := by have := H200.out; omega
          generalize (reg T).1 = PT at *
          clear hm hreg h21 h22 HLS
          have HIN : Hid (∀ m y, (ids PT)[m]? = some y → 1 ≤ y ∧ y ≤ PT.lst) := Lib.hid fun m y q => ids_in HIV.out q
          have HRS : Hid (∀ m z y, (ids PT)[m]? = some z → (ids PT)[m + 1]? = some y → z < y) := Lib.hid fun m z y q p => ids_rise HIV.out q p
          have HI2 : Hid (∀ X, LvE w X b PT [] → Calls Try.prog 30 #[.pointer (some ⟨b, 0, none⟩)] X fun e Y => ∃ A c, e = .returned (.slice A (ids PT).length c) ∧ Rws DI Y Y.heap.size A (ids PT) ∧ LvE w Y b PT []) := Lib.hid fun X h => (ids_lv h).mono (by
            rintro e Y ⟨u, rfl, h1, h2, h3⟩
            obtain ⟨A, c, rfl, h4, _⟩ := h1.form
            exact ⟨A, c, rfl, h4, h2⟩)
          have HNI : Hid ((ids PT).length ≤ 32) := Lib.hid (by unfold ids; rw [List.length_map]; exact HIV.out.len)
          generalize ids PT = LI at HIN HRS HI2 HNI
          obtain ⟨NI, hNI⟩ : ∃ NI, LI.length = NI := ⟨_, rfl⟩
          have HIL := Lib.hid hNI
          rw [hNI] at HI2 HNI
          clear hNI
          go_wp2_with (first
            | (go_at_call 30; (with_reducible refine (HID.out _ HI.out.1).mono ?_); rintro e w2 ⟨A9, c9, rfl, h⟩; have HL2 := Lib.hid h; clear h)
            | (go_at_call 18; (with_reducible refine (HRG.out _ HL2.out).mono ?_); rintro e w3 ⟨rfl, h⟩; have HL3 := Lib.hid h; clear h HL2)
            | (go_at_call 30; (with_reducible refine (HI2.out _ HL3.out).mono ?_); rintro e w4 ⟨A8, c8, rfl, ho, h⟩; have HO := Lib.hid ho; have HL4 := Lib.hid h; clear h ho HL3))
          rw [← HLQ.out]
          go_loopw [10, 78] (fun _ kV wr2 => ∃ (m : Nat), kV = .int .i64 (m : Int) ∧ m ≤ NI ∧ Rws DI wr2 wr2.heap.size A8 LI ∧ LvE w wr2 b PT []) (fun _ kV _ => NI - (intOf kV).toNat)
          case atStart => exact ⟨0, rfl, Nat.zero_le _, HO.out, HL4.out⟩
          case round =>
            obtain ⟨m, rfl, hm, ho, hl⟩ := hrel
            have HOI := Lib.hid ho
            have HLI := Lib.hid hl
            clear ho hl
            by_cases hmn : m < NI
            case neg =>
              have g5 : decide ((m : Int) < (NI : Int)) = false := by simp; omega
              have g6 : decide (m < NI) = false := by simp; omega
              have g7 : decide ((32 : Int) < (NI : Int)) = false := by have := HNI.out; simp; omega
              have g8 : decide (32 < NI) = false := by have := HNI.out; simp; omega
              go_wp2_with fail
              go_roundw
              case rel => exact ⟨j + 1, PT, by go_num, Nat.succ_le_of_lt HLT.out, rfl, HLI.out, HLE.out⟩
              case measure => exact meas_lt HLT.out
            case pos =>
              have HMN := Lib.hid hmn
              have g5 : decide ((m : Int) < (NI : Int)) = true := by simp; omega
              have g6 : decide (m < NI) = true := by simp; omega
              have i2 : (m : Int) < (NI : Int) := by omega
              obtain ⟨y, hy⟩ : ∃ y, LI[m]? = some y := ⟨_, List.getElem?_eq_getElem (by have := HIL.out; omega)⟩
              obtain ⟨bb, oo, hA8, hcy⟩ := int_at HOI.out hy
              obtain ⟨hy1, hy2⟩ := HIN.out m y hy
              have g9 : decide (y < 1) = false := by simp; omega
              have g10 : decide (PT.lst < y) = false := by simp; omega
              have HRO : Hid (∀ n, Rws DI (wr.drewN n) (wr.drewN n).heap.size A8 LI) := Lib.hid fun n => (HOI.out.on (below_drewN (Below.refl _ _) n)).mono (below_drewN (Below.refl wr.heap.size wr) n).size
              have HRL : Hid (∀ n, LvE w (wr.drewN n) b PT []) := Lib.hid fun n => HLI.out.below (below_drewN (Below.refl _ _) n)
              have hN32 := HNI.out
              subst hA8
              rcases Nat.eq_zero_or_pos m with hz0 | hp0
              · subst hz0
                have q0 : wr.cell? ⟨bb, oo, none⟩ = some (.int .i64 y) := (hcy wr (Below.refl _ _)).1
                have q1 : wr.drew.cell? ⟨bb, oo, none⟩ = some (.int .i64 y) := (hcy wr.drew (Below.refl _ _).drew).1
                have i3 : (0 : Int) < (NI : Int) := by omega
                have i4 : 0 < NI := hmn
                clear hcy hy1 hy2 hmn hm i2 g5 g6 hy
                have g5 : decide ((0 : Int) < (NI : Int)) = true := by simp; omega
                go_wp2_with fail
                go_quiet (fail)
                go_wp2_with fail
                go_roundw
                case rel => exact ⟨0 + 1, by go_num, Nat.succ_le_of_lt HMN.out, HRO.out _, HRL.out _⟩
                case measure => exact meas_lt HMN.out
              · obtain ⟨m', hm'⟩ : ∃ m', m = m' + 1 := ⟨m - 1, by omega⟩
                obtain ⟨z, hz⟩ : ∃ z, LI[m']? = some z := ⟨_, List.getElem?_eq_getElem (by have := HIL.out; omega)⟩
                obtain ⟨bb2, oo2, hA9, hcz⟩ := int_at HOI.out hz
                cases hA9
                have hyz := HRS.out m' z y hz (by rw [← hm']; exact hy)
                obtain ⟨q0, q0'⟩ := hcy wr (Below.refl _ _)
                obtain ⟨q1, q1'⟩ := hcy wr.drew (Below.refl _ _).drew
                obtain ⟨s0, s0'⟩ := hcz wr (Below.refl _ _)
                obtain ⟨s1, s1'⟩ := hcz wr.drew (Below.refl _ _).drew
                have hm1 : (m : Int) - 1 = (m' : Int) := by omega
                have i3 : (m' : Int) < (NI : Int) := by omega
                have i4 : m' < 32 := by omega
                have i5 : m < 32 := by omega
                have g11 : decide ((0 : Int) < (m : Int)) = true := by simp; omega
                have g13 : decide (0 < m) = true := by simp; omega
                have g12 : decide (y ≤ z) = false := by simp; omega
                clear hcy hcz hy1 hy2 hyz hm' hz hy q0' q1' s0' s1'
                go_wp2_with fail
                go_quiet (fail)
                go_wp2_with fail
                go_roundw
                case rel => exact ⟨m + 1, by go_num, Nat.succ_le_of_lt HMN.out, HRO.out _, HRL.out _⟩
                case measure => exact meas_lt HMN.out
      case neg =>
        have f1 : (x.k == 0) = false := by simp [k0]
        have HLK : Hid ((play T x).lst = T.lst) := Lib.hid (lst_keep k0)
        have HIV : Hid (Inv (play T x)) := Lib.hid (inv_play HIT.out x hxr)
        have HLE : Hid ((play T x).lst ≤ ((j + 1 : Nat) : Int)) := Lib.hid (by rw [HLK.out]; omega)
        generalize play T x = PT at *
        unfold actV at HPL
        clear k0 hxr hxe HLS HRG HID
        obtain ⟨xk, xi, xq, xn, ⟨re, rs, ra, rb, rc, rn⟩⟩ := x
        dsimp only at *
        have HIN : Hid (∀ m y, (ids PT)[m]? = some y → 1 ≤ y ∧ y ≤ PT.lst) := Lib.hid fun m y q => ids_in HIV.out q
        have HRS : Hid (∀ m z y, (ids PT)[m]? = some z → (ids PT)[m + 1]? = some y → z < y) := Lib.hid fun m z y q p => ids_rise HIV.out q p
        have HI2 : Hid (∀ X, LvE w X b PT [] → Calls Try.prog 30 #[.pointer (some ⟨b, 0, none⟩)] X fun e Y => ∃ A c, e = .returned (.slice A (ids PT).length c) ∧ Rws DI Y Y.heap.size A (ids PT) ∧ LvE w Y b PT []) := Lib.hid fun X h => (ids_lv h).mono (by
          rintro e Y ⟨u, rfl, h1, h2, h3⟩
          obtain ⟨A, c, rfl, h4, _⟩ := h1.form
          exact ⟨A, c, rfl, h4, h2⟩)
        have HNI : Hid ((ids PT).length ≤ 32) := Lib.hid (by unfold ids; rw [List.length_map]; exact HIV.out.len)
        generalize ids PT = LI at HIN HRS HI2 HNI
        obtain ⟨NI, hNI⟩ : ∃ NI, LI.length = NI := ⟨_, rfl⟩
        have HIL := Lib.hid hNI
        rw [hNI] at HI2 HNI
        clear hNI
        go_wp2_with (first
          | (go_at_call 27; (with_reducible refine (HPL.out _ HI.out.1).mono ?_); rintro e w3 ⟨rfl, h⟩; have HL3 := Lib.hid h; clear h)
          | (go_at_call 30; (with_reducible refine (HI2.out _ HL3.out).mono ?_); rintro e w4 ⟨A8, c8, rfl, ho, h⟩; have HO := Lib.hid ho; have HL4 := Lib.hid h; clear h ho HL3))
        rw [← HLK.out]
        go_loopw [10, 78] (fun _ kV wr2 => ∃ (m : Nat), kV = .int .i64 (m : Int) ∧ m ≤ NI ∧ Rws DI wr2 wr2.heap.size A8 LI ∧ LvE w wr2 b PT []) (fun _ kV _ => NI - (intOf kV).toNat)
        case atStart => exact ⟨0, rfl, Nat.zero_le _, HO.out, HL4.out⟩
        case round =>
          obtain ⟨m, rfl, hm, ho, hl⟩ := hrel
          have HOI := Lib.hid ho
          have HLI := Lib.hid hl
          clear ho hl
          by_cases hmn : m < NI
          case neg =>
            have g5 : decide ((m : Int) < (NI : Int)) = false := by simp; omega
            have g6 : decide (m < NI) = false := by simp; omega
            have g7 : decide ((32 : Int) < (NI : Int)) = false := by have := HNI.out; simp; omega
            have g8 : decide (32 < NI) = false := by have := HNI.out; simp; omega
            go_wp2_with fail
            go_roundw
            case rel => exact ⟨j + 1, PT, by go_num, Nat.succ_le_of_lt HLT.out, rfl, HLI.out, HLE.out⟩
            case measure => exact meas_lt HLT.out
          case pos =>
            have HMN := Lib.hid hmn
            have g5 : decide ((m : Int) < (NI : Int)) = true := by simp; omega
            have g6 : decide (m < NI) = true := by simp; omega
            have i2 : (m : Int) < (NI : Int) := by omega
            obtain ⟨y, hy⟩ : ∃ y, LI[m]? = some y := ⟨_, List.getElem?_eq_getElem (by have := HIL.out; omega)⟩
            obtain ⟨bb, oo, hA8, hcy⟩ := int_at HOI.out hy
            obtain ⟨hy1, hy2⟩ := HIN.out m y hy
            have g9 : decide (y < 1) = false := by simp; omega
            have g10 : decide (PT.lst < y) = false := by simp; omega
            have HRO : Hid (∀ n, Rws DI (wr.drewN n) (wr.drewN n).heap.size A8 LI) := Lib.hid fun n => (HOI.out.on (below_drewN (Below.refl _ _) n)).mono (below_drewN (Below.refl wr.heap.size wr) n).size
            have HRL : Hid (∀ n, LvE w (wr.drewN n) b PT []) := Lib.hid fun n => HLI.out.below (below_drewN (Below.refl _ _) n)
            have hN32 := HNI.out
            subst hA8
            rcases Nat.eq_zero_or_pos m with hz0 | hp0
            · subst hz0
              have q0 : wr.cell? ⟨bb, oo, none⟩ = some (.int .i64 y) := (hcy wr (Below.refl _ _)).1
              have q1 : wr.drew.cell? ⟨bb, oo, none⟩ = some (.int .i64 y) := (hcy wr.drew (Below.refl _ _).drew).1
              have i3 : (0 : Int) < (NI : Int) := by omega
              have i4 : 0 < NI := hmn
              clear hcy hy1 hy2 hmn hm i2 g5 g6 hy
              have g5 : decide ((0 : Int) < (NI : Int)) = true := by simp; omega
              go_wp2_with fail
              go_quiet (fail)
              go_wp2_with fail
              go_roundw
              case rel => exact ⟨0 + 1, by go_num, Nat.succ_le_of_lt HMN.out, HRO.out _, HRL.out _⟩
              case measure => exact meas_lt HMN.out
            · obtain ⟨m', hm'⟩ : ∃ m', m = m' + 1 := ⟨m - 1, by omega⟩
              obtain ⟨z, hz⟩ : ∃ z, LI[m']? = some z := ⟨_, List.getElem?_eq_getElem (by have := HIL.out; omega)⟩
              obtain ⟨bb2, oo2, hA9, hcz⟩ := int_at HOI.out hz
              cases hA9
              have hyz := HRS.out m' z y hz (by rw [← hm']; exact hy)
              obtain ⟨q0, q0'⟩ := hcy wr (Below.refl _ _)
              obtain ⟨q1, q1'⟩ := hcy wr.drew (Below.refl _ _).drew
              obtain ⟨s0, s0'⟩ := hcz wr (Below.refl _ _)
              obtain ⟨s1, s1'⟩ := hcz wr.drew (Below.refl _ _).drew
              have hm1 : (m : Int) - 1 = (m' : Int) := by omega
              have i3 : (m' : Int) < (NI : Int) := by omega
              have i4 : m' < 32 := by omega
              have i5 : m < 32 := by omega
              have g11 : decide ((0 : Int) < (m : Int)) = true := by simp; omega
              have g13 : decide (0 < m) = true := by simp; omega
              have g12 : decide (y ≤ z) = false := by simp; omega
              clear hcy hcz hy1 hy2 hyz hm' hz hy q0' q1' s0' s1'
              go_wp2_with fail
              go_quiet (fail)
              go_wp2_with fail
              go_roundw
              case rel => exact ⟨m + 1, by go_num, Nat.succ_le_of_lt HMN.out, HRO.out _, HRL.out _⟩
              case measure => exact meas_lt HMN.out
end Go.Proofs.Ytbbfjlkgfaniaaa
