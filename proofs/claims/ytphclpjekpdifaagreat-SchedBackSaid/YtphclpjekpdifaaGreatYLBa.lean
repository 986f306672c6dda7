import Derived.Test.YtphclpjekpdifaaGreatYBk
namespace Go.Proofs.YtphclpjekpdifaaGreat
set_option maxRecDepth 20000
open Go.RowKit
open PS (Tx putM dropM setM findM Nod Ten Jb kOf St Cm Rp byName row)
open Go.Proofs.YtphclpjekpdifaaGreat.Nm (str)
open Go.Proofs.YtphclpjekpdifaaGreat.Vc (RetBelow fitB I64)
set_option linter.unusedVariables false
set_option maxHeartbeats 32000000 in
theorem law_back (L0 : List Cm) (A : Option Addr) (N c0 : Nat) (L2 : List Cm) (A2 : Option Addr) (N2 c2 : Nat) (w : World) (hA : Rws DC w w.heap.size A L0) (hN : L0.length = N) (hX : ∀ c ∈ L0, CmX c) (hA2 : Rws DC w w.heap.size A2 L2) (hN2 : L2.length = N2) (hX2 : ∀ c ∈ L2, CmX c) : Calls Tryz.prog 4 #[.slice A N c0, .slice A2 N2 c2] w (RetBelow (.bool true) w) := by
  have HA2 := Lib.hid hA2
  have HN2 := Lib.hid hN2
  have HX2 := Lib.hid hX2
  clear hA2 hN2 hX2
  have HA := Lib.hid hA
  have HN := Lib.hid hN
  have HX := Lib.hid hX
  have HB := Lib.hid (Below.refl w.heap.size w)
  have HAW := Lib.hid (awake_any w)
  have HNW : Hid (∀ X, Below w.heap.size w X → Calls Tryz.prog 12 #[] X fun e Y => ∃ b, e = .returned (.pointer (some ⟨b, 0, none⟩)) ∧ LvE w Y b PS.s0 []) := Lib.hid fun X h => new_lv h [] (fun p hp => by cases hp)
  clear hA hX hN
  go_enter Tryz.func4, Tryz.ntmps4
  go_wp2_with (first | (go_at_call 11; (with_reducible refine HAW.out.mono ?_); rintro e w0 ⟨rfl, hb⟩; have HB0 := Lib.hid hb; clear hb) | (go_at_call 12; (with_reducible refine (HNW.out _ HB0.out).mono ?_); rintro e w1 ⟨b, rfl, h⟩; have HL0 := Lib.hid h; clear h))
  go_loopw [6] (fun iV wr => ∃ (j : Nat) (S : St), iV = .int .i64 (j : Int) ∧ j ≤ N ∧ LvE w wr b S []) (fun iV _ => N - (intOf iV).toNat)
  case atStart => exact ⟨0, _, rfl, Nat.zero_le _, HL0.out⟩
  case round =>
    obtain ⟨j, S, rfl, hj, hi⟩ := hrel
    have HI := Lib.hid hi
    clear hi
    by_cases hgo : j < N ∧ j < 300
    case neg =>
      have hgo' : j < N → ¬ j < 300 := fun a b => hgo ⟨a, b⟩
      clear hgo
      rcases Nat.lt_or_ge j N with hlt | hlt
      · have h2 := hgo' hlt
        have g1 : decide ((j : Int) < (N : Int)) = true := by simp; omega
        have g2 : decide (j < N) = true := by simp; omega
        have g3 : decide ((j : Int) < 300) = false := by simp; omega
        have g4 : decide (j < 300) = false := by simp; omega
        clear hgo' hlt h2
        have HSV := Lib.hid fun (X : World) (h : LvE w X b S []) => save_lv h
        have hls := load_save HI.out.inv
        have HLD : Hid (∀ X, Calls Tryz.prog 19 #[.string (str (PS.save S))] X fun e Y => ∃ t T, e = .returned (.tuple #[.pointer (some ⟨t, 0, none⟩), .int .i64 0]) ∧ Sch Y t S T ∧ (∀ k, T k → X.heap.size ≤ k) ∧ Inv S ∧ Below X.heap.size X Y) := Lib.hid fun X => by
          refine (load_any (PS.save S) X (Nat.le_trans hls.2 (by omega))).mono ?_
          rintro e Y (⟨h1, _⟩ | ⟨T9, t, T, h1, h2, h3, h4, h5, h6⟩)
          · rw [hls.1] at h1; cases h1
          · rw [hls.1] at h1; cases h1; exact ⟨t, T, h2, h3, h4, h6, h5⟩
        have HS1 := Lib.hid fun (X : World) (t : Nat) (h : L2E w X b S t S []) => save_l2 h
        have HS2 : Hid (∀ X t, L2E w X b S t S [] → Calls Tryz.prog 20 #[.pointer (some ⟨t, 0, none⟩)] X fun e Y => e = .returned (.string (str (PS.save S))) ∧ L2E w Y b S t S []) := Lib.hid fun X t h => (save_l2 h.swap).mono fun e Y q => ⟨q.1, q.2.swap⟩
        clear hls
        obtain ⟨TX, hTX⟩ : ∃ TX, str (PS.save S) = TX := ⟨_, rfl⟩
        rw [hTX] at HSV HLD HS1 HS2
        clear hTX
        have g5 : (TX == TX) = true := (beq_toListBytes _ _).trans (beq_self_eq_true _)
        have g6 : (TX.toList == TX.toList) = true := beq_self_eq_true _
        go_wp2_with (first
          | (go_at_call 20; (with_reducible refine (HSV.out _ HI.out).mono ?_); rintro e w2 ⟨rfl, h⟩; have HL2 := Lib.hid h; clear h HI)
          | (go_at_call 19; (with_reducible refine (HLD.out _).mono ?_); rintro e w3 ⟨t, T, rfl, hs, hS, hi, hb⟩; have HL3 := Lib.hid (L2E.start HL2.out hs hS hi hb); clear hs hS hi hb HL2)
          | (go_at_call 20; (with_reducible refine (HS2.out _ _ HL3.out).mono ?_); rintro e w4 ⟨rfl, h⟩; have HL4 := Lib.hid h; clear h HL3)
          | (go_at_call 20; (with_reducible refine (HS1.out _ _ HL4.out).mono ?_); rintro e w5 ⟨rfl, h⟩; have HL5 := Lib.hid h; clear h HL4))
        clear HSV HLD HS1 HS2
        go_loopw [9] (fun iV wr => ∃ (j : Nat) (S2 : St), iV = .int .i64 (j : Int) ∧ j ≤ N2 ∧ L2E w wr b S2 t S2 []) (fun iV _ => N2 - (intOf iV).toNat)
        case atStart => exact ⟨0, _, rfl, Nat.zero_le _, HL5.out⟩
        case round =>
          obtain ⟨j, S2, rfl, hj, hi⟩ := hrel
          have HI := Lib.hid hi
          clear hi
          by_cases hgo : j < N2 ∧ j < 300
          case neg =>
            have hgo' : j < N2 → ¬ j < 300 := fun a b => hgo ⟨a, b⟩
            clear hgo
            rcases Nat.lt_or_ge j N2 with hlt | hlt
            · have h2 := hgo' hlt
              have g1 : decide ((j : Int) < (N2 : Int)) = true := by simp; omega
              have g2 : decide (j < N2) = true := by simp; omega
              have g3 : decide ((j : Int) < 300) = false := by simp; omega
              have g4 : decide (j < 300) = false := by simp; omega
              clear hgo' hlt h2
              have HS1 := Lib.hid fun (X : World) (h : L2E w X b S2 t S2 []) => save_l2 h
              have HS2 : Hid (∀ X, L2E w X b S2 t S2 [] → Calls Tryz.prog 20 #[.pointer (some ⟨t, 0, none⟩)] X fun e Y => e = .returned (.string (str (PS.save S2))) ∧ L2E w Y b S2 t S2 []) := Lib.hid fun X h => (save_l2 h.swap).mono fun e Y q => ⟨q.1, q.2.swap⟩
              generalize str (PS.save S2) = TY at *
              have g7 : (TY == TY) = true := (beq_toListBytes _ _).trans (beq_self_eq_true _)
              have g8 : (TY.toList == TY.toList) = true := beq_self_eq_true _
              go_wp2_with (first
                | (go_at_call 20; (with_reducible refine (HS1.out _ HI.out).mono ?_); rintro e w6 ⟨rfl, h⟩; have HL6 := Lib.hid h; clear h)
                | (go_at_call 20; (with_reducible refine (HS2.out _ HL6.out).mono ?_); rintro e w7 ⟨rfl, h⟩; have HL7 := Lib.hid h; clear h))
              go_ret
              exact ⟨rfl, HL7.out.bel⟩
            · have g1 : decide ((j : Int) < (N2 : Int)) = false := by simp; omega
              have g2 : decide (j < N2) = false := by simp; omega
              clear hgo' hlt
              have HS1 := Lib.hid fun (X : World) (h : L2E w X b S2 t S2 []) => save_l2 h
              have HS2 : Hid (∀ X, L2E w X b S2 t S2 [] → Calls Tryz.prog 20 #[.pointer (some ⟨t, 0, none⟩)] X fun e Y => e = .returned (.string (str (PS.save S2))) ∧ L2E w Y b S2 t S2 []) := Lib.hid fun X h => (save_l2 h.swap).mono fun e Y q => ⟨q.1, q.2.swap⟩
              generalize str (PS.save S2) = TY at *
              have g7 : (TY == TY) = true := (beq_toListBytes _ _).trans (beq_self_eq_true _)
              have g8 : (TY.toList == TY.toList) = true := beq_self_eq_true _
              go_wp2_with (first
                | (go_at_call 20; (with_reducible refine (HS1.out _ HI.out).mono ?_); rintro e w6 ⟨rfl, h⟩; have HL6 := Lib.hid h; clear h)
                | (go_at_call 20; (with_reducible refine (HS2.out _ HL6.out).mono ?_); rintro e w7 ⟨rfl, h⟩; have HL7 := Lib.hid h; clear h))
              go_ret
              exact ⟨rfl, HL7.out.bel⟩
          case pos =>
            obtain ⟨hlt, h300⟩ := hgo
            have g1 : decide ((j : Int) < (N2 : Int)) = true := by simp; omega
            have g2 : decide (j < N2) = true := by simp; omega
            have g3 : decide ((j : Int) < 300) = true := by simp; omega
            have g4 : decide (j < 300) = true := by simp; omega
            have HLT := Lib.hid hlt
            have i1 : (j : Int) < (N2 : Int) := by omega
            obtain ⟨c, hc⟩ : ∃ c, L2[j]? = some c := ⟨_, List.getElem?_eq_getElem (by have := HN2.out; omega)⟩
            obtain ⟨ba, off, hA0, hcells⟩ := cm_at HA2.out hc
            have hx := HX2.out c (List.mem_of_getElem? hc)
            have HD1 : Hid (∀ X, L2E w X b S2 t S2 [] → Calls Tryz.prog 13 #[.pointer (some ⟨b, 0, none⟩), .agg #[.int .i64 c.o, .string (str c.s), .string (str c.t), .int .i64 c.a, .int .i64 c.b, .int .i64 c.c, .int .i64 c.n]] X fun e Y => e = .returned (.agg #[.int .i64 (PS.doC S2 c).2.e, .string (str (PS.doC S2 c).2.s), .int .i64 (PS.doC S2 c).2.a, .int .i64 (PS.doC S2 c).2.b, .int .i64 (PS.doC S2 c).2.c, .int .i64 (PS.doC S2 c).2.n]) ∧ L2E w Y b (PS.doC S2 c).1 t S2 []) := Lib.hid fun X h => do_l2 h c hx.ok hx.i
            have HD2 : Hid (∀ X, L2E w X b (PS.doC S2 c).1 t S2 [] → Calls Tryz.prog 13 #[.pointer (some ⟨t, 0, none⟩), .agg #[.int .i64 c.o, .string (str c.s), .string (str c.t), .int .i64 c.a, .int .i64 c.b, .int .i64 c.c, .int .i64 c.n]] X fun e Y => e = .returned (.agg #[.int .i64 (PS.doC S2 c).2.e, .string (str (PS.doC S2 c).2.s), .int .i64 (PS.doC S2 c).2.a, .int .i64 (PS.doC S2 c).2.b, .int .i64 (PS.doC S2 c).2.c, .int .i64 (PS.doC S2 c).2.n]) ∧ L2E w Y b (PS.doC S2 c).1 t (PS.doC S2 c).1 []) := Lib.hid fun X h => (do_l2 h.swap c hx.ok hx.i).mono fun e Y q => ⟨q.1, q.2.swap⟩
            have HC1 := Lib.hid hcells
            clear hcells hc hx
            generalize PS.doC S2 c = dr at HD1 HD2 ⊢
            obtain ⟨S3, er, rs, ra, rb, rc, rn⟩ := dr
            dsimp only at HD1 HD2
            obtain ⟨co, cs, ct, ca, cb, cc, cn⟩ := c
            dsimp only at HC1 HD1 HD2
            have q30 := fun W => eq35i er (str rs) ra rb rc rn W
            rw [hA0]
            have HE0 := Lib.hid (L2E.below HI.out (Below.refl _ _).drew)
            have e0 := HC1.out _ HE0.out.bel
            go_wp2_with fail
            go_region_held3 (fun V => V.cell? ⟨ba, off + j * 7, none⟩ = some (.int .i64 co) ∧ V.cell? ⟨ba, off + j * 7 + 1, none⟩ = some (.string (str cs)) ∧ V.cell? ⟨ba, off + j * 7 + 2, none⟩ = some (.string (str ct)) ∧ V.cell? ⟨ba, off + j * 7 + 3, none⟩ = some (.int .i64 ca) ∧ V.cell? ⟨ba, off + j * 7 + 4, none⟩ = some (.int .i64 cb) ∧ V.cell? ⟨ba, off + j * 7 + 5, none⟩ = some (.int .i64 cc) ∧ V.cell? ⟨ba, off + j * 7 + 6, none⟩ = some (.int .i64 cn))
              (first | exact e0 | exact e5 | exact e6)
              (first
                | (go_at_call 13; (with_reducible refine (HD1.out _ HE0.out).mono ?_); rintro e wA ⟨rfl, h⟩; have HF1 := Lib.hid h; have e5 := HC1.out _ h.bel; clear h)
                | (go_at_call 13; (with_reducible refine (HD2.out _ HF1.out).mono ?_); rintro e wB ⟨rfl, h⟩; have HF2 := Lib.hid h; have e6 := HC1.out _ h.bel; clear h))
            all_goals
              clear e0 e5 e6
              go_wp2_with fail
              go_roundw
              case rel => exact ⟨j + 1, S3, by go_num, Nat.succ_le_of_lt HLT.out, HF2.out⟩
              case measure => exact meas_lt HLT.out
      · have g1 : decide ((j : Int) < (N : Int)) = false := by simp; omega
        have g2 : decide (j < N) = false := by simp; omega
        clear hgo' hlt
        have HSV := Lib.hid fun (X : World) (h : LvE w X b S []) => save_lv h
        have hls := load_save HI.out.inv
        have HLD : Hid (∀ X, Calls Tryz.prog 19 #[.string (str (PS.save S))] X fun e Y => ∃ t T, e = .returned (.tuple #[.pointer (some ⟨t, 0, none⟩), .int .i64 0]) ∧ Sch Y t S T ∧ (∀ k, T k → X.heap.size ≤ k) ∧ Inv S ∧ Below X.heap.size X Y) := Lib.hid fun X => by
          refine (load_any (PS.save S) X (Nat.le_trans hls.2 (by omega))).mono ?_
          rintro e Y (⟨h1, _⟩ | ⟨T9, t, T, h1, h2, h3, h4, h5, h6⟩)
          · rw [hls.1] at h1; cases h1
          · rw [hls.1] at h1; cases h1; exact ⟨t, T, h2, h3, h4, h6, h5⟩
        have HS1 := Lib.hid fun (X : World) (t : Nat) (h : L2E w X b S t S []) => save_l2 h
        have HS2 : Hid (∀ X t, L2E w X b S t S [] → Calls Tryz.prog 20 #[.pointer (some ⟨t, 0, none⟩)] X fun e Y => e = .returned (.string (str (PS.save S))) ∧ L2E w Y b S t S []) := Lib.hid fun X t h => (save_l2 h.swap).mono fun e Y q => ⟨q.1, q.2.swap⟩
        clear hls
        obtain ⟨TX, hTX⟩ : ∃ TX, str (PS.save S) = TX := ⟨_, rfl⟩
        rw [hTX] at HSV HLD HS1 HS2
        clear hTX
        have g5 : (TX == TX) = true := (beq_toListBytes _ _).trans (beq_self_eq_true _)
        have g6 : (TX.toList == TX.toList) = true := beq_self_eq_true _
        go_wp2_with (first
          | (go_at_call 20; (with_reducible refine (HSV.out _ HI.out).mono ?_); rintro e w2 ⟨rfl, h⟩; have HL2 := Lib.hid h; clear h HI)
          | (go_at_call 19; (with_reducible refine (HLD.out _).mono ?_); rintro e w3 ⟨t, T, rfl, hs, hS, hi, hb⟩; have HL3 := Lib.hid (L2E.start HL2.out hs hS hi hb); clear hs hS hi hb HL2)
          | (go_at_call 20; (with_reducible refine (HS2.out _ _ HL3.out).mono ?_); rintro e w4 ⟨rfl, h⟩; have HL4 := Lib.hid h; clear h HL3)
          | (go_at_call 20; (with_reducible refine (HS1.out _ _ HL4.out).mono ?_); rintro e w5 ⟨rfl, h⟩; have HL5 := Lib.hid h; clear h HL4))
        clear HSV HLD HS1 HS2
        go_loopw [9] (fun iV wr => ∃ (j : Nat) (S2 : St), iV = .int .i64 (j : Int) ∧ j ≤ N2 ∧ L2E w wr b S2 t S2 []) (fun iV _ => N2 - (intOf iV).toNat)
        case atStart => exact ⟨0, _, rfl, Nat.zero_le _, HL5.out⟩
        case round =>
          obtain ⟨j, S2, rfl, hj, hi⟩ := hrel
          have HI := Lib.hid hi
          clear hi
          by_cases hgo : j < N2 ∧ j < 300
          case neg =>
            have hgo' : j < N2 → ¬ j < 300 := fun a b => hgo ⟨a, b⟩
            clear hgo
            rcases Nat.lt_or_ge j N2 with hlt | hlt
            · have h2 := hgo' hlt
              have g1 : decide ((j : Int) < (N2 : Int)) = true := by simp; omega
              have g2 : decide (j < N2) = true := by simp; omega
              have g3 : decide ((j : Int) < 300) = false := by simp; omega
              have g4 : decide (j < 300) = false := by simp; omega
              clear hgo' hlt h2
              have HS1 := Lib.hid fun (X : World) (h : L2E w X b S2 t S2 []) => save_l2 h
              have HS2 : Hid (∀ X, L2E w X b S2 t S2 [] → Calls Tryz.prog 20 #[.pointer (some ⟨t, 0, none⟩)] X fun e Y => e = .returned (.string (str (PS.save S2))) ∧ L2E w Y b S2 t S2 []) := Lib.hid fun X h => (save_l2 h.swap).mono fun e Y q => ⟨q.1, q.2.swap⟩
              generalize str (PS.save S2) = TY at *
              have g7 : (TY == TY) = true := (beq_toListBytes _ _).trans (beq_self_eq_true _)
              have g8 : (TY.toList == TY.toList) = true := beq_self_eq_true _
              go_wp2_with (first
                | (go_at_call 20; (with_reducible refine (HS1.out _ HI.out).mono ?_); rintro e w6 ⟨rfl, h⟩; have HL6 := Lib.hid h; clear h)
                | (go_at_call 20; (with_reducible refine (HS2.out _ HL6.out).mono ?_); rintro e w7 ⟨rfl, h⟩; have HL7 := Lib.hid h; clear h))
              go_ret
              exact ⟨rfl, HL7.out.bel⟩
            · have g1 : decide ((j : Int) < (N2 : Int)) = false := by simp; omega
              have g2 : decide (j < N2) = false := by simp; omega
              clear hgo' hlt
              have HS1 := Lib.hid fun (X : World) (h : L2E w X b S2 t S2 []) => save_l2 h
              have HS2 : Hid (∀ X, L2E w X b S2 t S2 [] → Calls Tryz.prog 20 #[.pointer (some ⟨t, 0, none⟩)] X fun e Y => e = .returned (.string (str (PS.save S2))) ∧ L2E w Y b S2 t S2 []) := Lib.hid fun X h => (save_l2 h.swap).mono fun e Y q => ⟨q.1, q.2.swap⟩
              generalize str (PS.save S2) = TY at *
              have g7 : (TY == TY) = true := (beq_toListBytes _ _).trans (beq_self_eq_true _)
              have g8 : (TY.toList == TY.toList) = true := beq_self_eq_true _
              go_wp2_with (first
                | (go_at_call 20; (with_reducible refine (HS1.out _ HI.out).mono ?_); rintro e w6 ⟨rfl, h⟩; have HL6 := Lib.hid h; clear h)
                | (go_at_call 20; (with_reducible refine (HS2.out _ HL6.out).mono ?_); rintro e w7 ⟨rfl, h⟩; have HL7 := Lib.hid h; clear h))
              go_ret
              exact ⟨rfl, HL7.out.bel⟩
          case pos =>
            obtain ⟨hlt, h300⟩ := hgo
            have g1 : decide ((j : Int) < (N2 : Int)) = true := by simp; omega
            have g2 : decide (j < N2) = true := by simp; omega
            have g3 : decide ((j : Int) < 300) = true := by simp; omega
            have g4 : decide (j < 300) = true := by simp; omega
            have HLT := Lib.hid hlt
            have i1 : (j : Int) < (N2 : Int) := by omega
            obtain ⟨c, hc⟩ : ∃ c, L2[j]? = some c := ⟨_, List.getElem?_eq_getElem (by have := HN2.out; omega)⟩
            obtain ⟨ba, off, hA0, hcells⟩ := cm_at HA2.out hc
            have hx := HX2.out c (List.mem_of_getElem? hc)
            have HD1 : Hid (∀ X, L2E w X b S2 t S2 [] → Calls Tryz.prog 13 #[.pointer (some ⟨b, 0, none⟩), .agg #[.int .i64 c.o, .string (str c.s), .string (str c.t), .int .i64 c.a, .int .i64 c.b, .int .i64 c.c, .int .i64 c.n]] X fun e Y => e = .returned (.agg #[.int .i64 (PS.doC S2 c).2.e, .string (str (PS.doC S2 c).2.s), .int .i64 (PS.doC S2 c).2.a, .int .i64 (PS.doC S2 c).2.b, .int .i64 (PS.doC S2 c).2.c, .int .i64 (PS.doC S2 c).2.n]) ∧ L2E w Y b (PS.doC S2 c).1 t S2 []) := Lib.hid fun X h => do_l2 h c hx.ok hx.i
            have HD2 : Hid (∀ X, L2E w X b (PS.doC S2 c).1 t S2 [] → Calls Tryz.prog 13 #[.pointer (some ⟨t, 0, none⟩), .agg #[.int .i64 c.o, .string (str c.s), .string (str c.t), .int .i64 c.a, .int .i64 c.b, .int .i64 c.c, .int .i64 c.n]] X fun e Y => e = .returned (.agg #[.int .i64 (PS.doC S2 c).2.e, .string (str (PS.doC S2 c).2.s), .int .i64 (PS.doC S2 c).2.a, .int .i64 (PS.doC S2 c).2.b, .int .i64 (PS.doC S2 c).2.c, .int .i64 (PS.doC S2 c).2.n]) ∧ L2E w Y b (PS.doC S2 c).1 t (PS.doC S2 c).1 []) := Lib.hid fun X h => (do_l2 h.swap c hx.ok hx.i).mono fun e Y q => ⟨q.1, q.2.swap⟩
            have HC1 := Lib.hid hcells
            clear hcells hc hx
            generalize PS.doC S2 c = dr at HD1 HD2 ⊢
            obtain ⟨S3, er, rs, ra, rb, rc, rn⟩ := dr
            dsimp only at HD1 HD2
            obtain ⟨co, cs, ct, ca, cb, cc, cn⟩ := c
            dsimp only at HC1 HD1 HD2
            have q30 := fun W => eq35i er (str rs) ra rb rc rn W
            rw [hA0]
            have HE0 := Lib.hid (L2E.below HI.out (Below.refl _ _).drew)
            have e0 := HC1.out _ HE0.out.bel
            go_wp2_with fail
            go_region_held3 (fun V => V.cell? ⟨ba, off + j * 7, none⟩ = some (.int .i64 co) ∧ V.cell? ⟨ba, off + j * 7 + 1, none⟩ = some (.string (str cs)) ∧ V.cell? ⟨ba, off + j * 7 + 2, none⟩ = some (.string (str ct)) ∧ V.cell? ⟨ba, off + j * 7 + 3, none⟩ = some (.int .i64 ca) ∧ V.cell? ⟨ba, off + j * 7 + 4, none⟩ = some (.int .i64 cb) ∧ V.cell? ⟨ba, off + j * 7 + 5, none⟩ = some (.int .i64 cc) ∧ V.cell? ⟨ba, off + j * 7 + 6, none⟩ = some (.int .i64 cn))
              (first | exact e0 | exact e5 | exact e6)
              (first
                | (go_at_call 13; (with_reducible refine (HD1.out _ HE0.out).mono ?_); rintro e wA ⟨rfl, h⟩; have HF1 := Lib.hid h; have e5 := HC1.out _ h.bel; clear h)
                | (go_at_call 13; (with_reducible refine (HD2.out _ HF1.out).mono ?_); rintro e wB ⟨rfl, h⟩; have HF2 := Lib.hid h; have e6 := HC1.out _ h.bel; clear h))
            all_goals
              clear e0 e5 e6
              go_wp2_with fail
              go_roundw
              case rel => exact ⟨j + 1, S3, by go_num, Nat.succ_le_of_lt HLT.out, HF2.out⟩
              case measure => exact meas_lt HLT.out
    case pos =>
      obtain ⟨hlt, h300⟩ := hgo
      have g1 : decide ((j : Int) < (N : Int)) = true := by simp; omega
      have g2 : decide (j < N) = true := by simp; omega
      have g3 : decide ((j : Int) < 300) = true := by simp; omega
      have g4 : decide (j < 300) = true := by simp; omega
      have HLT := Lib.hid hlt
      have i1 : (j : Int) < (N : Int) := by omega
      obtain ⟨c, hc⟩ : ∃ c, L0[j]? = some c := ⟨_, List.getElem?_eq_getElem (by have := HN.out; omega)⟩
      obtain ⟨ba, off, hA0, hcells⟩ := cm_at HA.out hc
      have hx := HX.out c (List.mem_of_getElem? hc)
      have HDO : Hid (∀ X G, LvE w X b S G → Calls Tryz.prog 13 #[.pointer (some ⟨b, 0, none⟩), .agg #[.int .i64 c.o, .string (str c.s), .string (str c.t), .int .i64 c.a, .int .i64 c.b, .int .i64 c.c, .int .i64 c.n]] X fun e Y => e = .returned (.agg #[.int .i64 (PS.doC S c).2.e, .string (str (PS.doC S c).2.s), .int .i64 (PS.doC S c).2.a, .int .i64 (PS.doC S c).2.b, .int .i64 (PS.doC S c).2.c, .int .i64 (PS.doC S c).2.n]) ∧ LvE w Y b (PS.doC S c).1 G) := Lib.hid fun X G h => do_lv h c hx.ok hx.i
      obtain ⟨p0, p1, p2, p3, p4, p5, p6⟩ := hcells _ HI.out.bel
      clear hcells hc hx
      generalize PS.doC S c = dr at HDO ⊢
      obtain ⟨S2, er, rs, ra, rb, rc, rn⟩ := dr
      dsimp only at HDO
      obtain ⟨co, cs, ct, ca, cb, cc, cn⟩ := c
      dsimp only at *
      rw [hA0]
      go_wp2_with (go_at_call 13; (with_reducible refine (HDO.out _ _ HI.out).mono ?_); rintro e w2 ⟨rfl, h⟩; have HL2 := Lib.hid h; clear h)
      go_roundw
      case rel => exact ⟨j + 1, S2, by go_num, Nat.succ_le_of_lt HLT.out, HL2.out⟩
      case measure => exact meas_lt HLT.out
end Go.Proofs.YtphclpjekpdifaaGreat
