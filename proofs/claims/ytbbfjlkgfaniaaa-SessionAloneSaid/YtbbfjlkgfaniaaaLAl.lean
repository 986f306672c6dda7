import Derived.Test.YtbbfjlkgfaniaaaAr
namespace Go.Proofs.Ytbbfjlkgfaniaaa
set_option maxRecDepth 20000
open Go.RowKit
open SP
open Go.Proofs.Ytbbfjlkgfaniaaa.Nm (str)
open Wi (RetBelow)
set_option linter.unusedVariables false
set_option maxHeartbeats 16000000 in
theorem law_alone (L0 : List SP.Act) (A : Option Addr) (N c0 : Nat) (id : Int) (L2 : List SP.Act) (A2 : Option Addr) (N2 c2 : Nat) (q : Int) (w : World) (hA : Rws DA w w.heap.size A L0) (hN : L0.length = N) (hX : ∀ x ∈ L0, ActX x) (hA2 : Rws DA w w.heap.size A2 L2) (hN2 : L2.length = N2) (hX2 : ∀ x ∈ L2, ActX x) : Calls Try.prog 5 #[.slice A N c0, .int .i64 id, .slice A2 N2 c2, .int .i64 q] w (RetBelow (.bool true) w) := by
  have HA2 := Lib.hid hA2
  have HN2 := Lib.hid hN2
  have HX2 := Lib.hid hX2
  clear hA2 hN2 hX2
  have HA := Lib.hid hA
  have HN := Lib.hid hN
  have HX := Lib.hid hX
  have HB := Lib.hid (Below.refl w.heap.size w)
  have HAW := Lib.hid (awake_any w)
  have HNW : Hid (∀ X, Below w.heap.size w X → Calls Try.prog 12 #[] X fun e Y => ∃ b, e = .returned (.pointer (some ⟨b, 0, none⟩)) ∧ LvE w Y b t0 []) := Lib.hid fun X h => new_lv h [] (fun p hp => by cases hp)
  clear hA hX hN
  go_enter Try.func5, Try.ntmps5
  go_wp2_with (first | (go_at_call 11; (with_reducible refine HAW.out.mono ?_); rintro e w0 ⟨rfl, hb⟩; have HB0 := Lib.hid hb; clear hb) | (go_at_call 12; (with_reducible refine (HNW.out _ HB0.out).mono ?_); rintro e w1 ⟨b, rfl, h⟩; have HL0 := Lib.hid h; clear h))
  go_loopw [10] (fun iV wr => ∃ (j : Nat) (T : Tb), iV = .int .i64 (j : Int) ∧ j ≤ N ∧ LvE w wr b T []) (fun iV _ => N - (intOf iV).toNat)
  case atStart => exact ⟨0, _, rfl, Nat.zero_le _, HL0.out⟩
  case round =>
    obtain ⟨j, T, rfl, hj, hl⟩ := hrel
    have HL := Lib.hid hl
    clear hl
    by_cases hgo : j < N ∧ j < 200
    case neg =>
      have hgo' : j < N → ¬ j < 200 := fun a b => hgo ⟨a, b⟩
      clear hgo
      rcases Nat.lt_or_ge j N with hlt | hlt
      · have h2 := hgo' hlt
        have g1 : decide ((j : Int) < (N : Int)) = true := by simp; omega
        have g2 : decide (j < N) = true := by simp; omega
        have g3 : decide ((j : Int) < 200) = false := by simp; omega
        have g4 : decide (j < 200) = false := by simp; omega
        clear hgo' hlt h2
        have HCK : Hid (∀ X G, LvE w X b T G → Calls Try.prog 16 #[.pointer (some ⟨b, 0, none⟩), .int .i64 id, .int .i64 q] X fun e Y => e = .returned (.tuple #[.int .i64 (check T id q).1, rpV (check T id q).2]) ∧ LvE w Y b T G) := Lib.hid fun X G h => check_lv h id q
        obtain ⟨ck, hck⟩ : ∃ ck, check T id q = ck := ⟨_, rfl⟩
        rw [hck] at HCK
        obtain ⟨V, E, Sx, A1, B1, C1, N1⟩ := ck
        dsimp only [rpV] at HCK
        have HCE := Lib.hid hck
        clear hck
        go_wp2_with (go_at_call 16; (with_reducible refine (HCK.out _ _ HL.out).mono ?_); rintro e w3 ⟨rfl, h⟩; have HL3 := Lib.hid (h.box #[.int .i64 E, .string Sx, .int .i64 A1, .int .i64 B1, .int .i64 C1, .int .i64 N1] 38); clear h HL)
        go_loopw [13] (fun iV wr => ∃ (j : Nat) (T2 : Tb), iV = .int .i64 (j : Int) ∧ j ≤ N2 ∧ LvE w wr b T2 [(w3.heap.size, .cells #[.int .i64 E, .string Sx, .int .i64 A1, .int .i64 B1, .int .i64 C1, .int .i64 N1] 38 (0, 0))] ∧ findS T2.L id = findS T.L id) (fun iV _ => N2 - (intOf iV).toNat)
        case atStart => exact ⟨0, T, rfl, Nat.zero_le _, HL3.out, rfl⟩
        case round =>
          obtain ⟨j, T2, rfl, hj, hi⟩ := hrel
          have HI := Lib.hid hi
          clear hi
          by_cases hgo : j < N2 ∧ j < 200
          case neg =>
            have hgo' : j < N2 → ¬ j < 200 := fun a b => hgo ⟨a, b⟩
            clear hgo
            rcases Nat.lt_or_ge j N2 with hlt | hlt
            · have h2 := hgo' hlt
              have g1 : decide ((j : Int) < (N2 : Int)) = true := by simp; omega
              have g2 : decide (j < N2) = true := by simp; omega
              have g3 : decide ((j : Int) < 200) = false := by simp; omega
              have g4 : decide (j < 200) = false := by simp; omega
              clear hgo' hlt h2
              have HC2 : Hid (∀ X G, LvE w X b T2 G → Calls Try.prog 16 #[.pointer (some ⟨b, 0, none⟩), .int .i64 id, .int .i64 q] X fun e Y => e = .returned (.tuple #[.int .i64 V, .agg #[.int .i64 E, .string Sx, .int .i64 A1, .int .i64 B1, .int .i64 C1, .int .i64 N1]]) ∧ LvE w Y b T2 G) := Lib.hid fun X G h => by have := check_lv h id q; rw [check_L (T := T) q HI.out.2, HCE.out] at this; exact this
              have g7 : (V == V) = true := by simp
              have g8 := fun W => eq38v E Sx A1 B1 C1 N1 E Sx A1 B1 C1 N1 W
              have g9 : Wi.eqR E Sx A1 B1 C1 N1 E Sx A1 B1 C1 N1 = true := Wi.eqR_iff.2 ⟨rfl, rfl, ⟨rfl, rfl, rfl⟩, rfl⟩
              go_wp2_with (go_at_call 16; (with_reducible refine (HC2.out _ _ HI.out.1).mono ?_); rintro e w8 ⟨rfl, h⟩; have HL8 := Lib.hid (h.box #[.int .i64 E, .string Sx, .int .i64 A1, .int .i64 B1, .int .i64 C1, .int .i64 N1] 38); clear h; obtain ⟨x0, x1, x2, x3, x4, x5, _⟩ := row6 (HL8.out.held (p := (w8.heap.size, _)) (List.Mem.head _)); obtain ⟨y0, y1, y2, y3, y4, y5, _⟩ := row6 (HL8.out.held (p := (w3.heap.size, _)) (List.Mem.tail _ (List.Mem.head _))))
              go_ret
              exact ⟨by simp [*], HL8.out.bel⟩
            · have g1 : decide ((j : Int) < (N2 : Int)) = false := by simp; omega
              have g2 : decide (j < N2) = false := by simp; omega
              clear hgo' hlt
              have HC2 : Hid (∀ X G, LvE w X b T2 G → Calls Try.prog 16 #[.pointer (some ⟨b, 0, none⟩), .int .i64 id, .int .i64 q] X fun e Y => e = .returned (.tuple #[.int .i64 V, .agg #[.int .i64 E, .string Sx, .int .i64 A1, .int .i64 B1, .int .i64 C1, .int .i64 N1]]) ∧ LvE w Y b T2 G) := Lib.hid fun X G h => by have := check_lv h id q; rw [check_L (T := T) q HI.out.2, HCE.out] at this; exact this
              have g7 : (V == V) = true := by simp
              have g8 := fun W => eq38v E Sx A1 B1 C1 N1 E Sx A1 B1 C1 N1 W
              have g9 : Wi.eqR E Sx A1 B1 C1 N1 E Sx A1 B1 C1 N1 = true := Wi.eqR_iff.2 ⟨rfl, rfl, ⟨rfl, rfl, rfl⟩, rfl⟩
              go_wp2_with (go_at_call 16; (with_reducible refine (HC2.out _ _ HI.out.1).mono ?_); rintro e w8 ⟨rfl, h⟩; have HL8 := Lib.hid (h.box #[.int .i64 E, .string Sx, .int .i64 A1, .int .i64 B1, .int .i64 C1, .int .i64 N1] 38); clear h; obtain ⟨x0, x1, x2, x3, x4, x5, _⟩ := row6 (HL8.out.held (p := (w8.heap.size, _)) (List.Mem.head _)); obtain ⟨y0, y1, y2, y3, y4, y5, _⟩ := row6 (HL8.out.held (p := (w3.heap.size, _)) (List.Mem.tail _ (List.Mem.head _))))
              go_ret
              exact ⟨by simp [*], HL8.out.bel⟩
          case pos =>
            obtain ⟨hlt, h200⟩ := hgo
            have g1 : decide ((j : Int) < (N2 : Int)) = true := by simp; omega
            have g2 : decide (j < N2) = true := by simp; omega
            have g3 : decide ((j : Int) < 200) = true := by simp; omega
            have g4 : decide (j < 200) = true := by simp; omega
            have HLT := Lib.hid hlt
            have H200 := Lib.hid h200
            have i1 : (j : Int) < (N2 : Int) := by omega
            obtain ⟨x, hx⟩ : ∃ x, L2[j]? = some x := ⟨_, List.getElem?_eq_getElem (by have := HN2.out; omega)⟩
            obtain ⟨ba, off, hA0, hcells⟩ := act_at HA2.out hx
            obtain ⟨hxr, hxe⟩ := HX2.out x (List.mem_of_getElem? hx)
            have HPL : Hid (∀ X G, LvE w X b T2 G → Calls Try.prog 27 #[.pointer (some ⟨b, 0, none⟩), actV x] X fun e Y => e = .returned (.tuple #[]) ∧ LvE w Y b (play T2 x) G) := Lib.hid fun X G h => play_lv h x hxr hxe
            obtain ⟨p0, p1, p2, p3, p4, p5, p6, p7, p8, p9⟩ := hcells _ HI.out.1.bel
            clear hcells hx
            rw [hA0]
            by_cases k1 : x.id = id
            case pos =>
              have f1 : (x.id != id) = false := by simp [k1]
              obtain ⟨xk, xi, xq, xn, ⟨re, rs, ra, rb, rc, rn⟩⟩ := x
              dsimp only at *
              go_wp2_with fail
              go_roundw
              case rel => exact ⟨j + 1, T2, by go_num, Nat.succ_le_of_lt HLT.out, HI.out⟩
              case measure => exact meas_lt HLT.out
            case neg =>
            have f1 : (x.id != id) = true := by simp [k1]
            by_cases k2 : 1 ≤ x.k
            case neg =>
              have f2 : decide (1 ≤ x.k) = false := by simp; omega
              obtain ⟨xk, xi, xq, xn, ⟨re, rs, ra, rb, rc, rn⟩⟩ := x
              dsimp only at *
              go_wp2_with fail
              go_roundw
              case rel => exact ⟨j + 1, T2, by go_num, Nat.succ_le_of_lt HLT.out, HI.out⟩
              case measure => exact meas_lt HLT.out
            case pos =>
            have f2 : decide (1 ≤ x.k) = true := by simp; omega
            by_cases k3 : x.k ≤ 3
            case neg =>
              have f3 : decide (x.k ≤ 3) = false := by simp; omega
              obtain ⟨xk, xi, xq, xn, ⟨re, rs, ra, rb, rc, rn⟩⟩ := x
              dsimp only at *
              go_wp2_with fail
              go_roundw
              case rel => exact ⟨j + 1, T2, by go_num, Nat.succ_le_of_lt HLT.out, HI.out⟩
              case measure => exact meas_lt HLT.out
            case pos =>
            have f3 : decide (x.k ≤ 3) = true := by simp; omega
            have HFP : Hid (findS (play T2 x).L id = findS T2.L id) := Lib.hid (find_play k1 k2 k3)
            generalize play T2 x = PT at *
            unfold actV at HPL
            clear k1 k2 k3 hxr hxe
            obtain ⟨xk, xi, xq, xn, ⟨re, rs, ra, rb, rc, rn⟩⟩ := x
            dsimp only at *
            go_wp2_with (go_at_call 27; (with_reducible refine (HPL.out _ _ HI.out.1).mono ?_); rintro e w4 ⟨rfl, h⟩; have HL2 := Lib.hid h; clear h)
            go_roundw
            case rel => exact ⟨j + 1, PT, by go_num, Nat.succ_le_of_lt HLT.out, HL2.out, HFP.out.trans HI.out.2⟩
            case measure => exact meas_lt HLT.out
      · have g1 : decide ((j : Int) < (N : Int)) = false := by simp; omega
        have g2 : decide (j < N) = false := by simp; omega
        clear hgo' hlt
        have HCK : Hid (∀ X G, LvE w X b T G → Calls Try.prog 16 #[.pointer (some ⟨b, 0, none⟩), .int .i64 id, .int .i64 q] X fun e Y => e = .returned (.tuple #[.int .i64 (check T id q).1, rpV (check T id q).2]) ∧ LvE w Y b T G) := Lib.hid fun X G h => check_lv h id q
        obtain ⟨ck, hck⟩ : ∃ ck, check T id q = ck := ⟨_, rfl⟩
        rw [hck] at HCK
        obtain ⟨V, E, Sx, A1, B1, C1, N1⟩ := ck
        dsimp only [rpV] at HCK
        have HCE := Lib.hid hck
        clear hck
        go_wp2_with (go_at_call 16; (with_reducible refine (HCK.out _ _ HL.out).mono ?_); rintro e w3 ⟨rfl, h⟩; have HL3 := Lib.hid (h.box #[.int .i64 E, .string Sx, .int .i64 A1, .int .i64 B1, .int .i64 C1, .int .i64 N1] 38); clear h HL)
        go_loopw [13] (fun iV wr => ∃ (j : Nat) (T2 : Tb), iV = .int .i64 (j : Int) ∧ j ≤ N2 ∧ LvE w wr b T2 [(w3.heap.size, .cells #[.int .i64 E, .string Sx, .int .i64 A1, .int .i64 B1, .int .i64 C1, .int .i64 N1] 38 (0, 0))] ∧ findS T2.L id = findS T.L id) (fun iV _ => N2 - (intOf iV).toNat)
        case atStart => exact ⟨0, T, rfl, Nat.zero_le _, HL3.out, rfl⟩
        case round =>
          obtain ⟨j, T2, rfl, hj, hi⟩ := hrel
          have HI := Lib.hid hi
          clear hi
          by_cases hgo : j < N2 ∧ j < 200
          case neg =>
            have hgo' : j < N2 → ¬ j < 200 := fun a b => hgo ⟨a, b⟩
            clear hgo
            rcases Nat.lt_or_ge j N2 with hlt | hlt
            · have h2 := hgo' hlt
              have g1 : decide ((j : Int) < (N2 : Int)) = true := by simp; omega
              have g2 : decide (j < N2) = true := by simp; omega
              have g3 : decide ((j : Int) < 200) = false := by simp; omega
              have g4 : decide (j < 200) = false := by simp; omega
              clear hgo' hlt h2
              have HC2 : Hid (∀ X G, LvE w X b T2 G → Calls Try.prog 16 #[.pointer (some ⟨b, 0, none⟩), .int .i64 id, .int .i64 q] X fun e Y => e = .returned (.tuple #[.int .i64 V, .agg #[.int .i64 E, .string Sx, .int .i64 A1, .int .i64 B1, .int .i64 C1, .int .i64 N1]]) ∧ LvE w Y b T2 G) := Lib.hid fun X G h => by have := check_lv h id q; rw [check_L (T := T) q HI.out.2, HCE.out] at this; exact this
              have g7 : (V == V) = true := by simp
              have g8 := fun W => eq38v E Sx A1 B1 C1 N1 E Sx A1 B1 C1 N1 W
              have g9 : Wi.eqR E Sx A1 B1 C1 N1 E Sx A1 B1 C1 N1 = true := Wi.eqR_iff.2 ⟨rfl, rfl, ⟨rfl, rfl, rfl⟩, rfl⟩
              go_wp2_with (go_at_call 16; (with_reducible refine (HC2.out _ _ HI.out.1).mono ?_); rintro e w8 ⟨rfl, h⟩; have HL8 := Lib.hid (h.box #[.int .i64 E, .string Sx, .int .i64 A1, .int .i64 B1, .int .i64 C1, .int .i64 N1] 38); clear h; obtain ⟨x0, x1, x2, x3, x4, x5, _⟩ := row6 (HL8.out.held (p := (w8.heap.size, _)) (List.Mem.head _)); obtain ⟨y0, y1, y2, y3, y4, y5, _⟩ := row6 (HL8.out.held (p := (w3.heap.size, _)) (List.Mem.tail _ (List.Mem.head _))))
              go_ret
              exact ⟨by simp [*], HL8.out.bel⟩
            · have g1 : decide ((j : Int) < (N2 : Int)) = false := by simp; omega
              have g2 : decide (j < N2) = false := by simp; omega
              clear hgo' hlt
              have HC2 : Hid (∀ X G, LvE w X b T2 G → Calls Try.prog 16 #[.pointer (some ⟨b, 0, none⟩), .int .i64 id, .int .i64 q] X fun e Y => e = .returned (.tuple #[.int .i64 V, .agg #[.int .i64 E, .string Sx, .int .i64 A1, .int .i64 B1, .int .i64 C1, .int .i64 N1]]) ∧ LvE w Y b T2 G) := Lib.hid fun X G h => by have := check_lv h id q; rw [check_L (T := T) q HI.out.2, HCE.out] at this; exact this
              have g7 : (V == V) = true := by simp
              have g8 := fun W => eq38v E Sx A1 B1 C1 N1 E Sx A1 B1 C1 N1 W
              have g9 : Wi.eqR E Sx A1 B1 C1 N1 E Sx A1 B1 C1 N1 = true := Wi.eqR_iff.2 ⟨rfl, rfl, ⟨rfl, rfl, rfl⟩, rfl⟩
              go_wp2_with (go_at_call 16; (with_reducible refine (HC2.out _ _ HI.out.1).mono ?_); rintro e w8 ⟨rfl, h⟩; have HL8 := Lib.hid (h.box #[.int .i64 E, .string Sx, .int .i64 A1, .int .i64 B1, .int .i64 C1, .int .i64 N1] 38); clear h; obtain ⟨x0, x1, x2, x3, x4, x5, _⟩ := row6 (HL8.out.held (p := (w8.heap.size, _)) (List.Mem.head _)); obtain ⟨y0, y1, y2, y3, y4, y5, _⟩ := row6 (HL8.out.held (p := (w3.heap.size, _)) (List.Mem.tail _ (List.Mem.head _))))
              go_ret
              exact ⟨by simp [*], HL8.out.bel⟩
          case pos =>
            obtain ⟨hlt, h200⟩ := hgo
            have g1 : decide ((j : Int) < (N2 : Int)) = true := by simp; omega
            have g2 : decide (j < N2) = true := by simp; omega
            have g3 : decide ((j : Int) < 200) = true := by simp; omega
            have g4 : decide (j < 200) = true := by simp; omega
            have HLT := Lib.hid hlt
            have H200 := Lib.hid h200
            have i1 : (j : Int) < (N2 : Int) := by omega
            obtain ⟨x, hx⟩ : ∃ x, L2[j]? = some x := ⟨_, List.getElem?_eq_getElem (by have := HN2.out; omega)⟩
            obtain ⟨ba, off, hA0, hcells⟩ := act_at HA2.out hx
            obtain ⟨hxr, hxe⟩ := HX2.out x (List.mem_of_getElem? hx)
            have HPL : Hid (∀ X G, LvE w X b T2 G → Calls Try.prog 27 #[.pointer (some ⟨b, 0, none⟩), actV x] X fun e Y => e = .returned (.tuple #[]) ∧ LvE w Y b (play T2 x) G) := Lib.hid fun X G h => play_lv h x hxr hxe
            obtain ⟨p0, p1, p2, p3, p4, p5, p6, p7, p8, p9⟩ := hcells _ HI.out.1.bel
            clear hcells hx
            rw [hA0]
            by_cases k1 : x.id = id
            case pos =>
              have f1 : (x.id != id) = false := by simp [k1]
              obtain ⟨xk, xi, xq, xn, ⟨re, rs, ra, rb, rc, rn⟩⟩ := x
              dsimp only at *
              go_wp2_with fail
              go_roundw
              case rel => exact ⟨j + 1, T2, by go_num, Nat.succ_le_of_lt HLT.out, HI.out⟩
              case measure => exact meas_lt HLT.out
            case neg =>
            have f1 : (x.id != id) = true := by simp [k1]
            by_cases k2 : 1 ≤ x.k
            case neg =>
              have f2 : decide (1 ≤ x.k) = false := by simp; omega
              obtain ⟨xk, xi, xq, xn, ⟨re, rs, ra, rb, rc, rn⟩⟩ := x
              dsimp only at *
              go_wp2_with fail
              go_roundw
              case rel => exact ⟨j + 1, T2, by go_num, Nat.succ_le_of_lt HLT.out, HI.out⟩
              case measure => exact meas_lt HLT.out
            case pos =>
            have f2 : decide (1 ≤ x.k) = true := by simp; omega
            by_cases k3 : x.k ≤ 3
            case neg =>
              have f3 : decide (x.k ≤ 3) = false := by simp; omega
              obtain ⟨xk, xi, xq, xn, ⟨re, rs, ra, rb, rc, rn⟩⟩ := x
              dsimp only at *
              go_wp2_with fail
              go_roundw
              case rel => exact ⟨j + 1, T2, by go_num, Nat.succ_le_of_lt HLT.out, HI.out⟩
              case measure => exact meas_lt HLT.out
            case pos =>
            have f3 : decide (x.k ≤ 3) = true := by simp; omega
            have HFP : Hid (findS (play T2 x).L id = findS T2.L id) := Lib.hid (find_play k1 k2 k3)
            generalize play T2 x = PT at *
            unfold actV at HPL
            clear k1 k2 k3 hxr hxe
            obtain ⟨xk, xi, xq, xn, ⟨re, rs, ra, rb, rc, rn⟩⟩ := x
            dsimp only at *
            go_wp2_with (go_at_call 27; (with_reducible refine (HPL.out _ _ HI.out.1).mono ?_); rintro e w4 ⟨rfl, h⟩; have HL2 := Lib.hid h; clear h)
            go_roundw
            case rel => exact ⟨j + 1, PT, by go_num, Nat.succ_le_of_lt HLT.out, HL2.out, HFP.out.trans HI.out.2⟩
            case measure => exact meas_lt HLT.out
    case pos =>
      obtain ⟨hlt, h200⟩ := hgo
      have g1 : decide ((j : Int) < (N : Int)) = true := by simp; omega
      have g2 : decide (j < N) = true := by simp; omega
      have g3 : decide ((j : Int) < 200) = true := by simp; omega
      have g4 : decide (j < 200) = true := by simp; omega
      have HLT := Lib.hid hlt
      have i1 : (j : Int) < (N : Int) := by omega
      obtain ⟨x, hx⟩ : ∃ x, L0[j]? = some x := ⟨_, List.getElem?_eq_getElem (by have := HN.out; omega)⟩
      obtain ⟨ba, off, hA0, hcells⟩ := act_at HA.out hx
      obtain ⟨hxr, hxe⟩ := HX.out x (List.mem_of_getElem? hx)
      have HPL : Hid (∀ X, LvE w X b T [] → Calls Try.prog 27 #[.pointer (some ⟨b, 0, none⟩), actV x] X fun e Y => e = .returned (.tuple #[]) ∧ LvE w Y b (play T x) []) := Lib.hid fun X h => play_lv h x hxr hxe
      obtain ⟨p0, p1, p2, p3, p4, p5, p6, p7, p8, p9⟩ := hcells _ HL.out.bel
      clear hcells hx hxr hxe
      rw [hA0]
      generalize play T x = PT at *
      unfold actV at HPL
      go_wp2_with (go_at_call 27; (with_reducible refine (HPL.out _ HL.out).mono ?_); rintro e w2 ⟨rfl, h⟩; have HL2 := Lib.hid h; clear h)
      go_roundw
      case rel => exact ⟨j + 1, PT, by go_num, Nat.succ_le_of_lt HLT.out, HL2.out⟩
      case measure => exact meas_lt HLT.out
end Go.Proofs.Ytbbfjlkgfaniaaa
