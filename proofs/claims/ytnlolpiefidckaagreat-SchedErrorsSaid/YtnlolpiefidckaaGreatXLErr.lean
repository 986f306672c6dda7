import Derived.Test.YtnlolpiefidckaaGreatX6
namespace Go.Proofs.YtnlolpiefidckaaGreat
set_option maxRecDepth 20000
open Go.RowKit
open PS (Tx putM dropM setM findM Nod Ten Jb kOf St Cm Rp byName row)
open Go.Proofs.YtnlolpiefidckaaGreat.Nm (str)
open Go.Proofs.YtnlolpiefidckaaGreat.Vc (RetBelow fitB I64)
set_option linter.unusedVariables false
theorem PS_do (S : St) (c : Cm) : ((PS.doC S c).2.e ≠ 0 ∨ 8 ≤ c.o → (PS.doC S c).1 = S) ∧ ((PS.doC S c).2.e ≠ 0 → str (PS.doC S c).2.s = ⟨#[]⟩ ∧ (PS.doC S c).2.a = 0 ∧ (PS.doC S c).2.b = 0 ∧ (PS.doC S c).2.c = 0 ∧ (PS.doC S c).2.n = 0) := by
  refine ⟨(do_err S c).1, fun h => ?_⟩
  rw [(do_err S c).2 h]
  exact ⟨rfl, rfl, rfl, rfl, rfl⟩
set_option maxHeartbeats 8000000 in
theorem law_errors (L0 : List Cm) (A : Option Addr) (N c0 : Nat) (w : World) (hA : Rws DC w w.heap.size A L0) (hN : L0.length = N) (hX : ∀ c ∈ L0, CmX c) : Calls Tryz.prog 8 #[.slice A N c0] w (RetBelow (.bool true) w) := by
  have HA := Lib.hid hA
  have HN := Lib.hid hN
  have HX := Lib.hid hX
  have HB := Lib.hid (Below.refl w.heap.size w)
  have HAW := Lib.hid (awake_any w)
  have HNW : Hid (∀ X, Below w.heap.size w X → Calls Tryz.prog 13 #[] X fun e Y => ∃ b, e = .returned (.pointer (some ⟨b, 0, none⟩)) ∧ LvE w Y b PS.s0 []) := Lib.hid fun X h => new_lv h [] (fun p hp => by cases hp)
  clear hA hX hN
  go_enter Tryz.func8, Tryz.ntmps8
  go_wp2_with (first | (go_at_call 12; (with_reducible refine HAW.out.mono ?_); rintro e w0 ⟨rfl, hb⟩; have HB0 := Lib.hid hb; clear hb) | (go_at_call 13; (with_reducible refine (HNW.out _ HB0.out).mono ?_); rintro e w1 ⟨b, rfl, h⟩; have HL0 := Lib.hid h; clear h))
  go_loopw [4, 5, 6] (fun iV _ _ wr => ∃ (j : Nat) (S : St), iV = .int .i64 j ∧ j ≤ N ∧ LvE w wr b S []) (fun iV _ _ _ => N - (intOf iV).toNat)
  case atStart => exact ⟨0, _, rfl, Nat.zero_le _, HL0.out⟩
  case round =>
    obtain ⟨j, S, rfl, hj, hl⟩ := hrel
    have HL := Lib.hid hl
    clear hl
    by_cases hlt : j < N
    case neg =>
      have g1 : decide ((j : Int) < (N : Int)) = false := by simp; omega
      have g2 : decide (j < N) = false := by simp; omega
      go_wp2_with fail
      go_ret
      exact ⟨rfl, HL.out.bel⟩
    case pos =>
    by_cases h300 : j < 300
    case neg =>
      have g1 : decide ((j : Int) < (N : Int)) = true := by simp; omega
      have g2 : decide (j < N) = true := by simp; omega
      have g3 : decide ((j : Int) < 300) = false := by simp; omega
      have g4 : decide (j < 300) = false := by simp; omega
      go_wp2_with fail
      go_ret
      exact ⟨rfl, HL.out.bel⟩
    case pos =>
    have g1 : decide ((j : Int) < (N : Int)) = true := by simp; omega
    have g2 : decide (j < N) = true := by simp; omega
    have g3 : decide ((j : Int) < 300) = true := by simp; omega
    have g4 : decide (j < 300) = true := by simp; omega
    have HLT := Lib.hid hlt
    obtain ⟨c, hc⟩ : ∃ c, L0[j]? = some c := ⟨_, List.getElem?_eq_getElem (by have := HN.out; omega)⟩
    obtain ⟨ba, off, hA0, hcells⟩ := cm_at HA.out hc
    have hx := HX.out c (List.mem_of_getElem? hc)
    have HDE := Lib.hid (PS_do S c)
    have HSV := Lib.hid fun (X : World) (G : List (Nat × Obj)) (h : LvE w X b S G) => save_lv h
    have HS2 := Lib.hid fun (X : World) (G : List (Nat × Obj)) (h : LvE w X b (PS.doC S c).1 G) => save_lv h
    have HDO : Hid (∀ X G, LvE w X b S G → Calls Tryz.prog 17 #[.pointer (some ⟨b, 0, none⟩), .agg #[.int .i64 c.o, .string (str c.s), .string (str c.t), .int .i64 c.a, .int .i64 c.b, .int .i64 c.c, .int .i64 c.n]] X fun e Y => e = .returned (.agg #[.int .i64 (PS.doC S c).2.e, .string (str (PS.doC S c).2.s), .int .i64 (PS.doC S c).2.a, .int .i64 (PS.doC S c).2.b, .int .i64 (PS.doC S c).2.c, .int .i64 (PS.doC S c).2.n]) ∧ LvE w Y b (PS.doC S c).1 G) := Lib.hid fun X G h => do_lv h c hx.ok hx.i
    have HAK : Hid (∀ X G, LvE w X b (PS.doC S c).1 G → Calls Tryz.prog 14 #[.pointer (some ⟨b, 0, none⟩), .agg #[.int .i64 c.o, .string (str c.s), .string (str c.t), .int .i64 c.a, .int .i64 c.b, .int .i64 c.c, .int .i64 c.n]] X fun e Y => (∃ q0 q1 q2 q3 q4 q5, e = .returned (.agg #[.int .i64 q0, .string q1, .int .i64 q2, .int .i64 q3, .int .i64 q4, .int .i64 q5])) ∧ LvE w Y b (PS.doC S c).1 G) := Lib.hid fun X G h => (ask_lv h c hx.ok).mono fun e Y q => ⟨⟨_, _, _, _, _, _, q.1⟩, q.2⟩
    have HC1 := Lib.hid hcells
    clear hcells hc hx
    generalize PS.doC S c = dr at *
    obtain ⟨S2, er, rsx, ra, rb, rc, rn⟩ := dr
    dsimp only at *
    obtain ⟨co, csx, ctx, ca, cb, cc, cn⟩ := c
    dsimp only at *
    generalize hTX0 : str (PS.save S) = TX at *
    generalize htx2 : str (PS.save S2) = TX2 at *
    have HTX : Hid (er ≠ 0 ∨ 8 ≤ co → TX2 = TX) := Lib.hid fun q => by rw [← htx2, HDE.out.1 q]; exact hTX0
    have HRS : Hid (er ≠ 0 → str rsx = ⟨#[]⟩ ∧ ra = 0 ∧ rb = 0 ∧ rc = 0 ∧ rn = 0) := Lib.hid fun q => HDE.out.2 q
    generalize str rsx = rs at *
    generalize str csx = cs at *
    generalize str ctx = ct at *
    clear htx2 HDE
    have g5 : (TX == TX) = true := (beq_toListBytes _ _).trans (beq_self_eq_true _)
    have g6 : (TX.toList == TX.toList) = true := beq_self_eq_true _
    rw [hA0]
    by_cases hE : er = 0
    case pos =>
      subst hE
      by_cases h8 : 8 ≤ co
      case pos =>
        obtain rfl := HTX.out (.inr h8)
        have g7 : decide (8 ≤ co) = true := by simp; omega
        go_wp2_with (first | (go_at_call 26; (with_reducible refine (HSV.out _ _ HL.out).mono ?_); rintro e w2 ⟨rfl, h⟩; have HL2 := Lib.hid h; clear h; obtain ⟨p0, p1, p2, p3, p4, p5, p6⟩ := HC1.out _ HL2.out.bel))
        go_wp2_with (first | (go_at_call 17; (with_reducible refine (HDO.out _ _ HL2.out).mono ?_); rintro e w3 ⟨rfl, h⟩; have HL3 := Lib.hid (h.box #[.int .i64 0, .string rs, .int .i64 ra, .int .i64 rb, .int .i64 rc, .int .i64 rn] 35); clear h p0 p1 p2 p3 p4 p5 p6; obtain ⟨p0, p1, p2, p3, p4, p5, p6⟩ := HC1.out _ HL3.out.bel))
        go_wp2_with (first | (go_at_call 14; (with_reducible refine (HAK.out _ _ HL3.out).mono ?_); rintro e w4 ⟨⟨q0, q1, q2, q3, q4, q5, rfl⟩, h⟩; have HL4 := Lib.hid h; clear h p0 p1 p2 p3 p4 p5 p6; obtain ⟨p0, _⟩ := HC1.out _ HL4.out.bel; obtain ⟨x0, x1, x2, x3, x4, x5, _⟩ := rowc6 (HL4.out.held (p := (w3.heap.size, _)) (List.Mem.head _))))
        go_wp2_with (first | (go_at_call 26; (with_reducible refine (HS2.out _ _ HL4.out).mono ?_); rintro e w5 ⟨rfl, h⟩; have HL5 := Lib.hid h; clear h x0 x1 x2 x3 x4 x5; obtain ⟨x0, x1, x2, x3, x4, x5, _⟩ := rowc6 (HL5.out.held (p := (w3.heap.size, _)) (List.Mem.head _))))
        go_roundw
        case rel => exact ⟨j + 1, S2, by go_num, Nat.succ_le_of_lt HLT.out, HL5.out.less (fun p hp => by cases hp)⟩
        case measure => exact meas_lt HLT.out
      case neg =>
        have g7 : decide (8 ≤ co) = false := by simp; omega
        go_wp2_with (first | (go_at_call 26; (with_reducible refine (HSV.out _ _ HL.out).mono ?_); rintro e w2 ⟨rfl, h⟩; have HL2 := Lib.hid h; clear h; obtain ⟨p0, p1, p2, p3, p4, p5, p6⟩ := HC1.out _ HL2.out.bel))
        go_wp2_with (first | (go_at_call 17; (with_reducible refine (HDO.out _ _ HL2.out).mono ?_); rintro e w3 ⟨rfl, h⟩; have HL3 := Lib.hid (h.box #[.int .i64 0, .string rs, .int .i64 ra, .int .i64 rb, .int .i64 rc, .int .i64 rn] 35); clear h p0 p1 p2 p3 p4 p5 p6; obtain ⟨p0, p1, p2, p3, p4, p5, p6⟩ := HC1.out _ HL3.out.bel))
        go_wp2_with (first | (go_at_call 14; (with_reducible refine (HAK.out _ _ HL3.out).mono ?_); rintro e w4 ⟨⟨q0, q1, q2, q3, q4, q5, rfl⟩, h⟩; have HL4 := Lib.hid h; clear h p0 p1 p2 p3 p4 p5 p6; obtain ⟨p0, _⟩ := HC1.out _ HL4.out.bel; obtain ⟨x0, x1, x2, x3, x4, x5, _⟩ := rowc6 (HL4.out.held (p := (w3.heap.size, _)) (List.Mem.head _))))
        go_wp2_with fail
        go_roundw
        case rel => exact ⟨j + 1, S2, by go_num, Nat.succ_le_of_lt HLT.out, HL4.out.less (fun p hp => by cases hp)⟩
        case measure => exact meas_lt HLT.out
    case neg =>
      obtain rfl := HTX.out (.inl hE)
      obtain ⟨rfl, rfl, rfl, rfl, rfl⟩ := HRS.out hE
      have he1 : (er == 0) = false := by simp [hE]
      have he2 : (er != 0) = true := by simp [hE]
      have q35 := fun W => eq35i er ⟨#[]⟩ 0 0 0 0 W
      have hbd : ∀ W : World, (Instr.build 35 #[(0, .int .i64 er)]).run Tryz.prog W = .ok (.agg #[.int .i64 er, .string ⟨#[]⟩, .int .i64 0, .int .i64 0, .int .i64 0, .int .i64 0]) W := fun W => run_build W 35 _ _ (by kernel_rfl)
      go_wp2_with (first | (go_at_call 26; (with_reducible refine (HSV.out _ _ HL.out).mono ?_); rintro e w2 ⟨rfl, h⟩; have HL2 := Lib.hid h; clear h; obtain ⟨p0, p1, p2, p3, p4, p5, p6⟩ := HC1.out _ HL2.out.bel))
      go_wp2_with (first | (go_at_call 17; (with_reducible refine (HDO.out _ _ HL2.out).mono ?_); rintro e w3 ⟨rfl, h⟩; have HL3 := Lib.hid (h.box #[.int .i64 er, .string ⟨#[]⟩, .int .i64 0, .int .i64 0, .int .i64 0, .int .i64 0] 35); clear h p0 p1 p2 p3 p4 p5 p6; obtain ⟨p0, p1, p2, p3, p4, p5, p6⟩ := HC1.out _ HL3.out.bel))
      go_wp2_with (first | (go_at_call 14; (with_reducible refine (HAK.out _ _ HL3.out).mono ?_); rintro e w4 ⟨⟨q0, q1, q2, q3, q4, q5, rfl⟩, h⟩; have HL4 := Lib.hid h; clear h p0 p1 p2 p3 p4 p5 p6; obtain ⟨p0, _⟩ := HC1.out _ HL4.out.bel; obtain ⟨x0, x1, x2, x3, x4, x5, _⟩ := rowc6 (HL4.out.held (p := (w3.heap.size, _)) (List.Mem.head _))))
      go_wp2_with (first | (go_at_call 26; (with_reducible refine (HS2.out _ _ HL4.out).mono ?_); rintro e w5 ⟨rfl, h⟩; have HL5 := Lib.hid h; clear h x0 x1 x2 x3 x4 x5; obtain ⟨x0, x1, x2, x3, x4, x5, _⟩ := rowc6 (HL5.out.held (p := (w3.heap.size, _)) (List.Mem.head _))))
      go_roundw
      case rel => exact ⟨j + 1, S2, by go_num, Nat.succ_le_of_lt HLT.out, HL5.out.less (fun p hp => by cases hp)⟩
      case measure => exact meas_lt HLT.out
end Go.Proofs.YtnlolpiefidckaaGreat
