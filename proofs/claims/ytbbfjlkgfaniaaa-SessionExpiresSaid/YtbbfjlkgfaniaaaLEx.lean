import Derived.Test.YtbbfjlkgfaniaaaAr
import Derived.Test.YtbbfjlkgfaniaaaPf
namespace Go.Proofs.Ytbbfjlkgfaniaaa
set_option maxRecDepth 20000
open Go.RowKit
open SP
open Go.Proofs.Ytbbfjlkgfaniaaa.Nm (str)
open Wi (RetBelow)
set_option linter.unusedVariables false
section
open Go.ChangeShapes Go.WideShapes Go.ChangeAt Go.Deep
variable {H : Type} {enc : TypeId × Value → H} {W : World} {base : Nat}
/-- bytes that came in -/
theorem bytes_arg {v : Value} {d : DataW H} {p : List MemPlace} (hv : Value.okWide Try.prog W .any base 59 v) (h0 : DataW.Trod enc Try.prog W 0 (fun _ => true) true 59 v d p) :
    ∃ (A : Option Addr) (N c : Nat), v = .slice A N c ∧ ∀ j, j < N → ∃ b off z, A = some ⟨b, off, none⟩ ∧ b < W.heap.size ∧ W.cell? ⟨b, off + j, none⟩ = some (.int .u8 z) ∧ 0 ≤ z ∧ z ≤ 255 := by
  obtain ⟨A, N, c, rfl⟩ := okWide_slice Try.underlying59 hv
  obtain ⟨fuel, h⟩ := h0
  have h : DataW.trod enc Try.prog W 0 (fun _ => true) true fuel 59 [.slice A N c] = some (d, p) := h
  rcases open_slice Try.underlying59 h with ⟨hcs, hx⟩ | ⟨a, len, cap, m, n, D, Pl, hcs, _, hl, hm, hmm, hx, hi⟩
  · simp only [List.cons.injEq, and_true, Value.slice.injEq] at hcs
    obtain ⟨rfl, rfl, rfl⟩ := hcs
    exact ⟨none, 0, 0, rfl, fun j hj => by omega⟩
  · simp only [List.cons.injEq, and_true, Value.slice.injEq] at hcs
    simp only [if_true] at hmm
    subst hmm
    rw [cells5] at hi
    obtain ⟨rfl, rfl, rfl⟩ := hcs
    refine ⟨some a, _, _, rfl, fun j hj => ?_⟩
    obtain ⟨cs', hc, ht⟩ := hi j (by omega)
    obtain ⟨_, hcl, hat⟩ := World.cells?_some hc
    match cs', hcl with
    | [u0], _ =>
      obtain ⟨k0, e0, _, w0⟩ := DataW.trod_int Try.underlying5 ht
      have e0' : u0 = .int .u8 k0 := by simpa using e0
      subst e0'
      have c0 := hat 0 (by simp)
      obtain ⟨b, off, spot⟩ := a
      have hspot : spot = none := by
        obtain ⟨cs0, hc0, ht0⟩ := hi 0 (by omega)
        obtain ⟨_, hcl0, hat0⟩ := World.cells?_some hc0
        match cs0, hcl0 with
        | [u9], _ => simpa [Addr.add] using World.cell?_spot (hat0 0 (by simp))
      subst hspot
      have hb := World.block_lt_of_cell? W _ c0
      rw [addr_add, addr_add] at c0 hb
      have hr : 0 ≤ k0 ∧ k0 ≤ 255 := by
        simp only [Lit.wf, Bool.and_eq_true, decide_eq_true_eq] at w0
        have e1 : IntKind.u8.min = 0 := by decide
        have e2 : IntKind.u8.max = 255 := by decide
        rw [e1, e2] at w0
        exact w0
      refine ⟨b, off, k0, rfl, hb, ?_, hr.1, hr.2⟩
      rw [Nat.mul_one] at c0
      exact c0
end
set_option maxHeartbeats 8000000 in
theorem law_expires (a : Int) (A : Option Addr) (N c0 : Nat) (w : World) (h0 : 0 ≤ a) (h1 : a ≤ 255) (hA : ∀ j, j < N → ∃ b off z, A = some ⟨b, off, none⟩ ∧ b < w.heap.size ∧ w.cell? ⟨b, off + j, none⟩ = some (.int .u8 z) ∧ 0 ≤ z ∧ z ≤ 255) : Calls Try.prog 7 #[.int .u8 a, .slice A N c0] w (RetBelow (.bool true) w) := by
  have HA := Lib.hid hA
  have HB := Lib.hid (Below.refl w.heap.size w)
  have HAW := Lib.hid (awake_any w)
  have HNW : Hid (∀ X, Below w.heap.size w X → Calls Try.prog 12 #[] X fun e Y => ∃ b, e = .returned (.pointer (some ⟨b, 0, none⟩)) ∧ LvE w Y b t0 []) := Lib.hid fun X h => new_lv h [] (fun p hp => by cases hp)
  have HREG : Hid (∀ X b G, LvE w X b t0 G → Calls Try.prog 18 #[.pointer (some ⟨b, 0, none⟩)] X fun e Y => e = .returned (.tuple #[.int .i64 1, .int .i64 0]) ∧ LvE w Y b z1 G) := Lib.hid fun X b G h => (reg_lv h).mono (by
    rw [s1]
    rintro e Y ⟨rfl, h⟩
    exact ⟨rfl, h⟩)
  clear hA
  go_enter Try.func7, Try.ntmps7
  go_wp2_with (first | (go_at_call 11; (with_reducible refine HAW.out.mono ?_); rintro e w0 ⟨rfl, hb⟩; have HB0 := Lib.hid hb; clear hb) | (go_at_call 12; (with_reducible refine (HNW.out _ HB0.out).mono ?_); rintro e w1 ⟨b, rfl, h⟩; have HL0 := Lib.hid h; clear h) | (go_at_call 18; (with_reducible refine (HREG.out _ _ _ HL0.out).mono ?_); rintro e w2 ⟨rfl, h⟩; have HL1 := Lib.hid h; clear h HL0))
  obtain ⟨nn, hnn⟩ : ∃ nn, a % 60 + 1 = nn := ⟨_, rfl⟩
  have hn1 : 1 ≤ nn := by omega
  have hn2 : nn ≤ 60 := by omega
  rw [hnn]
  have HN1 := Lib.hid hn1
  clear hnn
  go_loopw [6, 9, 10, 11, 12, 13, 14, 15, 16, 17] (fun idV qV iV _ _ _ _ _ _ _ wr => ∃ (j : Nat) (T : Tb) (id q : Int), iV = .int .i64 (j : Int) ∧ idV = .int .i64 id ∧ qV = .int .i64 q ∧ j ≤ N ∧ j ≤ 40 ∧ LvE w wr b T [] ∧ Lone T id q 0 ∧ T.clk ≤ 70 * j ∧ 0 ≤ q ∧ q ≤ j ∧ 0 ≤ id ∧ id ≤ j + 1) (fun _ _ iV _ _ _ _ _ _ _ _ => N - (intOf iV).toNat)
  case atStart => exact ⟨0, z1, 1, 0, rfl, rfl, rfl, Nat.zero_le _, Nat.zero_le _, HL1.out, lone_new 0 0, Int.le_refl _, Int.le_refl _, Int.le_refl _, by omega, by omega⟩
  case round =>
    obtain ⟨j, T, id, q, rfl, rfl, rfl, hj, hj40, hl, hlone, hclk, hq0, hqj, hid0, hidj⟩ := hrel
    have HL := Lib.hid hl
    have HLO := Lib.hid hlone
    clear hl hlone
    by_cases hgo : j < N ∧ j < 40
    case neg =>
      have hgo' : j < N → ¬ j < 40 := fun a b => hgo ⟨a, b⟩
      clear hgo
      rcases Nat.lt_or_ge j N with hlt | hlt
      · have h2 := hgo' hlt
        have g1 : decide ((j : Int) < (N : Int)) = true := by simp; omega
        have g2 : decide (j < N) = true := by simp; omega
        have g3 : decide ((j : Int) < 40) = false := by simp; omega
        have g4 : decide (j < 40) = false := by simp; omega
        clear hgo' hlt h2
        go_wp2_with fail
        go_ret
        exact ⟨rfl, HL.out.bel⟩
      · have g1 : decide ((j : Int) < (N : Int)) = false := by simp; omega
        have g2 : decide (j < N) = false := by simp; omega
        clear hgo' hlt
        go_wp2_with fail
        go_ret
        exact ⟨rfl, HL.out.bel⟩
    case pos =>
      obtain ⟨hlt, h40⟩ := hgo
      have g1 : decide ((j : Int) < (N : Int)) = true := by simp; omega
      have g2 : decide (j < N) = true := by simp; omega
      have g3 : decide ((j : Int) < 40) = true := by simp; omega
      have g4 : decide (j < 40) = true := by simp; omega
      have HLT := Lib.hid hlt
      have i1 : (j : Int) < (N : Int) := by omega
      obtain ⟨ba, off, z, hA0, hbl, hcell, hz0, hz1⟩ := HA.out j hlt
      have p0 := cellB hcell HL.out.bel hbl
      subst hA0
      obtain ⟨kk, hkk⟩ : ∃ kk : Nat, (kk : Int) = z % 70 := ⟨(z % 70).toNat, by omega⟩
      have hk70 : kk < 70 := by omega
      have HCK := Lib.hid hclk
      clear hcell hbl
      go_wp2_with fail
      rw [← hkk]
      generalize z % 70 = zz at hkk
      clear hkk
      go_loopw [12] (fun jV wr => ∃ (i : Nat) (T2 : Tb), jV = .int .i64 (i : Int) ∧ i ≤ kk ∧ LvE w wr b T2 [] ∧ Lone T2 id q i ∧ T2.clk = T.clk + i) (fun jV _ => kk - (intOf jV).toNat)
      case atStart => exact ⟨0, T, rfl, Nat.zero_le _, HL.out, HLO.out, by omega⟩
      case round =>
        obtain ⟨i, T2, rfl, hi, hl, hlone, hclk2⟩ := hrel
        have HL2 := Lib.hid hl
        have HLO2 := Lib.hid hlone
        have HCK2 := Lib.hid hclk2
        clear hl hlone
        by_cases hik : i < kk
        case pos =>
          have HIK := Lib.hid hik
          have g5 : decide ((i : Int) < (kk : Int)) = true := by simp; omega
          have g6 : decide (i < kk) = true := by simp; omega
          have hcm : T2.clk < M := by have h9 : M = 4611686018427387904 := rfl; have := HCK.out; omega
          have i6 : i < 70 := by omega
          have i7 : (i : Int) < (kk : Int) := by omega
          have HTK := Lib.hid (tick_lv HL2.out)
          obtain ⟨t1, t2⟩ := lone_tick HLO2.out hcm
          have HT1 := Lib.hid t1
          have HT2 := Lib.hid t2
          clear t1 t2 hcm hclk2
          generalize tick T2 = PT at *
          go_wp2_with (go_at_call 20; (with_reducible refine HTK.out.mono ?_); rintro e w3 ⟨rfl, h⟩; have HL3 := Lib.hid h; clear h)
          go_roundw
          case rel => exact ⟨i + 1, PT, by go_num, Nat.succ_le_of_lt HIK.out, HL3.out, HT1.out, by rw [HT2.out, HCK2.out]; omega⟩
          case measure => exact meas_lt HIK.out
        case neg =>
          have g5 : decide ((i : Int) < (kk : Int)) = false := by simp; omega
          have g6 : decide (i < kk) = false := by simp; omega
          obtain rfl : i = kk := by omega
          have HEX := Lib.hid (expire_lv HL2.out nn)
          have HCL : Hid (T2.clk ≤ 70 * ((j + 1 : Nat) : Int)) := Lib.hid (by have := HCK.out; omega)
          have hq40 : q < 40 := by omega
          have hid41 : id ≤ 41 := by omega
          have i8 : j < 40 := h40
          by_cases hgk : nn ≤ (i : Int)
          case pos =>
            have f1 : decide (nn ≤ (i : Int)) = true := by simpa using hgk
            have hlst : T2.lst = id := by obtain ⟨_, _, _, _, _, e⟩ := HLO2.out; exact e
            rw [lone_gone HLO2.out (by omega) hgk] at HEX
            dsimp only at HEX
            obtain ⟨T3, hT3⟩ : ∃ T3, T3 = (⟨T2.clk, T2.lst, []⟩ : Tb) := ⟨_, rfl⟩
            rw [← hT3] at HEX
            have HCH : Hid (∀ X, LvE w X b T3 [] → Calls Try.prog 16 #[.pointer (some ⟨b, 0, none⟩), .int .i64 id, .int .i64 (q + 1)] X fun e Y => e = .returned (.tuple #[.int .i64 3, .agg #[.int .i64 20, .string ⟨#[]⟩, .int .i64 0, .int .i64 0, .int .i64 0, .int .i64 0]]) ∧ LvE w Y b T3 []) := Lib.hid fun X h => (check_lv h id (q + 1)).mono (by
              rw [hT3, none_check]
              rintro e Y ⟨rfl, h⟩
              exact ⟨rfl, h⟩)
            have HRG : Hid (∀ X G, LvE w X b T3 G → Calls Try.prog 18 #[.pointer (some ⟨b, 0, none⟩)] X fun e Y => e = .returned (.tuple #[.int .i64 (id + 1), .int .i64 0]) ∧ LvE w Y b ⟨T2.clk, id + 1, [⟨id + 1, 0, r0, T2.clk⟩]⟩ G) := Lib.hid fun X G h => (reg_lv h).mono (by
              rw [hT3, none_reg (by have h9 : M = 4611686018427387904 := rfl; omega), hlst]
              rintro e Y ⟨rfl, h⟩
              exact ⟨rfl, h⟩)
            have HLN := Lib.hid (lone_new T2.clk id)
            have HCL4 : Hid ((⟨T2.clk, id + 1, [⟨id + 1, 0, r0, T2.clk⟩]⟩ : Tb).clk = T2.clk) := Lib.hid rfl
            generalize (⟨T2.clk, id + 1, [⟨id + 1, 0, r0, T2.clk⟩]⟩ : Tb) = T4 at HRG HLN HCL4
            clear hT3
            have f2 : decide (id + 1 ≤ id) = false := by simp; omega
            have HDN : Hid (∀ X G, LvE w X b T4 G → Calls Try.prog 23 #[.pointer (some ⟨b, 0, none⟩), .int .i64 (id + 1), .int .i64 1, .agg #[.int .i64 0, .string ⟨#[]⟩, .int .i64 0, .int .i64 0, .int .i64 0, .int .i64 1]] X fun e Y => e = .returned (.int .i64 0) ∧ ∃ T5, LvE w Y b T5 G ∧ Lone T5 (id + 1) 1 0 ∧ T5.clk = T2.clk) := Lib.hid fun X G h => (done_lv (r := ⟨0, ⟨#[]⟩, 0, 0, 0, 1⟩) h (id + 1) 1 ⟨i64_0, i64_0, i64_0, by show I64 1; unfold I64; omega⟩ i64_0).mono (by
              obtain ⟨d1, d2, d3⟩ := lone_done HLN.out (by omega) (by decide)
              rintro e Y ⟨rfl, h⟩
              exact ⟨by rw [show (0 : Int) + 1 = 1 from rfl] at d1; rw [d1], _, h, d2, d3.trans HCL4.out⟩)
            go_wp2_with (first
              | (go_at_call 25; (with_reducible refine HEX.out.mono ?_); rintro e w3 ⟨rfl, h⟩; have HL3 := Lib.hid h; clear h)
              | (go_at_call 16; (with_reducible refine (HCH.out _ HL3.out).mono ?_); rintro e w4 ⟨rfl, h⟩; have HL4 := Lib.hid (h.box #[.int .i64 20, .string ⟨#[]⟩, .int .i64 0, .int .i64 0, .int .i64 0, .int .i64 0] 38); clear h)
              | (go_at_call 18; (with_reducible refine (HRG.out _ _ HL4.out).mono ?_); rintro e w5 ⟨rfl, h⟩; have HL5 := Lib.hid h; clear h)
              | (go_at_call 23; (with_reducible refine (HDN.out _ _ HL5.out).mono ?_); rintro e w6 ⟨rfl, T5, h, hlo, hck⟩; have HL6 := Lib.hid h; have HLO6 := Lib.hid hlo; have HCK6 := Lib.hid hck; clear h hlo hck))
            go_roundw
            case rel => exact ⟨j + 1, T5, id + 1, 1, by go_num, by go_num, by go_num, Nat.succ_le_of_lt HLT.out, by omega, HL6.out.less (fun p hp => by cases hp), HLO6.out, by rw [HCK6.out]; exact HCL.out, by omega, by omega, by omega, by omega⟩
            case measure => exact meas_lt HLT.out
          case neg =>
            have f1 : decide (nn ≤ (i : Int)) = false := by simpa using hgk
            rw [lone_stay HLO2.out (by omega) (by omega)] at HEX
            dsimp only at HEX
            have HDN : Hid (∀ X G, LvE w X b T2 G → Calls Try.prog 23 #[.pointer (some ⟨b, 0, none⟩), .int .i64 id, .int .i64 (q + 1), .agg #[.int .i64 0, .string ⟨#[]⟩, .int .i64 0, .int .i64 0, .int .i64 0, .int .i64 (q + 1)]] X fun e Y => e = .returned (.int .i64 0) ∧ ∃ T5, LvE w Y b T5 G ∧ Lone T5 id (q + 1) 0 ∧ T5.clk = T2.clk) := Lib.hid fun X G h => (done_lv (r := ⟨0, ⟨#[]⟩, 0, 0, 0, q + 1⟩) h id (q + 1) ⟨i64_0, i64_0, i64_0, by show I64 (q + 1); unfold I64; omega⟩ i64_0).mono (by
              obtain ⟨d1, d2, d3⟩ := lone_done HLO2.out hq0 (by have h9 : M = 4611686018427387904 := rfl; omega)
              rintro e Y ⟨rfl, h⟩
              exact ⟨by rw [d1], _, h, d2, d3⟩)
            go_wp2_with (first
              | (go_at_call 25; (with_reducible refine HEX.out.mono ?_); rintro e w3 ⟨rfl, h⟩; have HL3 := Lib.hid h; clear h)
              | (go_at_call 23; (with_reducible refine (HDN.out _ _ HL3.out).mono ?_); rintro e w6 ⟨rfl, T5, h, hlo, hck⟩; have HL6 := Lib.hid h; have HLO6 := Lib.hid hlo; have HCK6 := Lib.hid hck; clear h hlo hck))
            go_roundw
            case rel => exact ⟨j + 1, T5, id, q + 1, by go_num, by go_num, by go_num, Nat.succ_le_of_lt HLT.out, by omega, HL6.out, HLO6.out, by rw [HCK6.out]; exact HCL.out, by omega, by omega, by omega, by omega⟩
            case measure => exact meas_lt HLT.out
end Go.Proofs.Ytbbfjlkgfaniaaa
