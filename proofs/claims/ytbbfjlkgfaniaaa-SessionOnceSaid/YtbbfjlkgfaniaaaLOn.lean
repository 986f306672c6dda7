import Derived.Test.YtbbfjlkgfaniaaaAr
namespace Go.Proofs.Ytbbfjlkgfaniaaa
set_option maxRecDepth 20000
open Go.RowKit
open SP
open Go.Proofs.Ytbbfjlkgfaniaaa.Nm (str)
open Wi (RetBelow)
set_option linter.unusedVariables false
theorem eq38i (o : Int) (s : ByteArray) (a b c n : Int) (w : World) : (Op.equalIn 10000 38 (.agg #[.int .i64 o, .string s, .int .i64 a, .int .i64 b, .int .i64 c, .int .i64 n]) (.agg #[.int .i64 o, .string s, .int .i64 a, .int .i64 b, .int .i64 c, .int .i64 n])).run Try.prog w = .ok true w := by
  have := Wi.eq34 o s a b c n o s a b c n w
  unfold Wi.rV at this
  rw [this, show Wi.eqR o s a b c n o s a b c n = true from Wi.eqR_iff.2 ⟨rfl, rfl, ⟨rfl, rfl, rfl⟩, rfl⟩]
theorem rk_pos (id q : Int) (T : Tb) : 0 ≤ rk id q T := by
  unfold rk
  split
  · omega
  · split <;> omega
set_option maxHeartbeats 32000000 in
theorem law_once (L0 : List SP.Act) (A : Option Addr) (N c0 : Nat) (id q : Int) (r : Rp) (L2 : List SP.Act) (A2 : Option Addr) (N2 c2 : Nat) (w : World) (hA : Rws DA w w.heap.size A L0) (hN : L0.length = N) (hX : ∀ x ∈ L0, ActX x) (hri : RpI r) (hre : I64 r.e) (hA2 : Rws DA w w.heap.size A2 L2) (hN2 : L2.length = N2) (hX2 : ∀ x ∈ L2, ActX x) : Calls Try.prog 4 #[.slice A N c0, .int .i64 id, .int .i64 q, rpV r, .slice A2 N2 c2] w (RetBelow (.bool true) w) := by
  have HA2 := Lib.hid hA2
  have HN2 := Lib.hid hN2
  have HX2 := Lib.hid hX2
  have HRI := Lib.hid hri
  have HRE := Lib.hid hre
  clear hA2 hN2 hX2 hri hre
  unfold rpV
  obtain ⟨pe, ps, pa, pb, pc, pn⟩ := r
  dsimp only at *
  have HA := Lib.hid hA
  have HN := Lib.hid hN
  have HX := Lib.hid hX
  have HB := Lib.hid (Below.refl w.heap.size w)
  have HAW := Lib.hid fun X : World => awake_any X
  have HB1 := Lib.hid ((Below.refl w.heap.size w).alloc (Nat.le_refl _) (.cells #[.int .i64 pe, .string ps, .int .i64 pa, .int .i64 pb, .int .i64 pc, .int .i64 pn] 38))
  have HRW := Lib.hid (heap_alloc_new w (.cells #[.int .i64 pe, .string ps, .int .i64 pa, .int .i64 pb, .int .i64 pc, .int .i64 pn] 38))
  have HNW : Hid (∀ X, Below w.heap.size w X → X.heap[w.heap.size]? = some (.cells #[.int .i64 pe, .string ps, .int .i64 pa, .int .i64 pb, .int .i64 pc, .int .i64 pn] 38 (0, 0)) → Calls Try.prog 12 #[] X fun e Y => ∃ b, e = .returned (.pointer (some ⟨b, 0, none⟩)) ∧ LvE w Y b t0 [(w.heap.size, .cells #[.int .i64 pe, .string ps, .int .i64 pa, .int .i64 pb, .int .i64 pc, .int .i64 pn] 38 (0, 0))]) := Lib.hid fun X h hh => new_lv h _ (fun p hp => by obtain rfl := List.mem_singleton.1 hp; exact hh)
  clear hA hX hN
  go_enter Try.func4, Try.ntmps4
  go_wp2_with (first | (go_at_call 11; (with_reducible refine (HAW.out _).mono ?_); rintro e w0 ⟨rfl, hb⟩; have HB0 := Lib.hid (HB1.out.trans (hb.mono HB1.out.size)); have HRW0 := Lib.hid ((hb.block w.heap.size (by simp)).trans HRW.out); clear hb) | (go_at_call 12; (with_reducible refine (HNW.out _ HB0.out HRW0.out).mono ?_); rintro e w1 ⟨b, rfl, h⟩; have HL0 := Lib.hid h; clear h))
  go_loopw [12] (fun iV wr => ∃ (j : Nat) (T : Tb), iV = .int .i64 (j : Int) ∧ j ≤ N ∧ LvE w wr b T [(w.heap.size, .cells #[.int .i64 pe, .string ps, .int .i64 pa, .int .i64 pb, .int .i64 pc, .int .i64 pn] 38 (0, 0))]) (fun iV _ => N - (intOf iV).toNat)
  case atStart => exact ⟨0, _, rfl, Nat.zero_le _, HL0.out⟩
  case round =>
    obtain ⟨j, T, rfl, hj, hl⟩ := hrel
    have HL := Lib.hid hl
    clear hl
    by_cases hgo : j < N ∧ j < 200
    case neg =>
      have hgo' : j < N → ¬ j < 200 := fun a b => hgo ⟨a, b⟩
      clear hgo
      rcases Nat.lt_or_ge j N with hlt | hlt
      · have h2 := hgo' hlt
        have g1 : decide ((j : Int) < (N : Int)) = true := by simp; omega
        have g2 : decide (j < N) = true := by simp; omega
        have g3 : decide ((j : Int) < 200) = false := by simp; omega
        have g4 : decide (j < 200) = false := by simp; omega
        clear hgo' hlt h2
        have HCK : Hid (∀ X G, LvE w X b T G → Calls Try.prog 16 #[.pointer (some ⟨b, 0, none⟩), .int .i64 id, .int .i64 q] X fun e Y => e = .returned (.tuple #[.int .i64 (check T id q).1, rpV (check T id q).2]) ∧ LvE w Y b T G) := Lib.hid fun X G h => check_lv h id q
        have HDN : Hid (∀ X G, LvE w X b T G → Calls Try.prog 23 #[.pointer (some ⟨b, 0, none⟩), .int .i64 id, .int .i64 q, .agg #[.int .i64 pe, .string ps, .int .i64 pa, .int .i64 pb, .int .i64 pc, .int .i64 pn]] X fun e Y => e = .returned (.int .i64 (done T id q ⟨pe, ps, pa, pb, pc, pn⟩).2) ∧ LvE w Y b (done T id q ⟨pe, ps, pa, pb, pc, pn⟩).1 G) := Lib.hid fun X G h => done_lv h id q HRI.out HRE.out
        have HONC : Hid ((check T id q).1 = 1 → (done T id q ⟨pe, ps, pa, pb, pc, pn⟩).2 = 0 → Onc id q ⟨pe, ps, pa, pb, pc, pn⟩ (done T id q ⟨pe, ps, pa, pb, pc, pn⟩).1 ∧ 0 < q ∧ q ≤ M) := Lib.hid fun h1 h2 => onc_new HL.out.inv HRI.out h1 h2
        generalize done T id q ⟨pe, ps, pa, pb, pc, pn⟩ = dn at *
        obtain ⟨PT0, de⟩ := dn
        generalize check T id q = ck at *
        obtain ⟨V, E, Sx, A1, B1, C1, N1⟩ := ck
        dsimp only [rpV] at HCK HDN HONC
        by_cases hv : V = 1
        case neg =>
          have f1 : (V != 1) = true := by simp [hv]
          go_wp2_with (go_at_call 16; (with_reducible refine (HCK.out _ _ HL.out).mono ?_); rintro e w3 ⟨rfl, h⟩; have HL3 := Lib.hid (h.box #[.int .i64 E, .string Sx, .int .i64 A1, .int .i64 B1, .int .i64 C1, .int .i64 N1] 38); clear h HL)
          go_ret
          exact ⟨rfl, HL3.out.bel⟩
        case pos =>
        subst hv
        by_cases hd : de = 0
        case neg =>
          have f2 : (de != 0) = true := by simp [hd]
          go_wp2_with (first
            | (go_at_call 16; (with_reducible refine (HCK.out _ _ HL.out).mono ?_); rintro e w3 ⟨rfl, h⟩; have HL3 := Lib.hid (h.box #[.int .i64 E, .string Sx, .int .i64 A1, .int .i64 B1, .int .i64 C1, .int .i64 N1] 38); clear h HL; obtain ⟨y0, y1, y2, y3, y4, y5, _⟩ := row6 (HL3.out.held (p := (w.heap.size, _)) (List.Mem.tail _ (List.Mem.head _))))
            | (go_at_call 23; (with_reducible refine (HDN.out _ _ HL3.out).mono ?_); rintro e w4' ⟨rfl, h⟩; have HL4 := Lib.hid h; clear h))
          go_ret
          exact ⟨rfl, HL4.out.bel⟩
        case pos =>
        subst hd
        obtain ⟨hon0, hq0, hqM⟩ := HONC.out rfl rfl
        have HON0 := Lib.hid hon0
        have HQ : Hid (0 < q ∧ q ≤ 4611686018427387904) := Lib.hid ⟨hq0, hqM⟩
        clear hon0 hq0 hqM
        go_wp2_with (first
          | (go_at_call 16; (with_reducible refine (HCK.out _ _ HL.out).mono ?_); rintro e w3 ⟨rfl, h⟩; have HL3 := Lib.hid (h.box #[.int .i64 E, .string Sx, .int .i64 A1, .int .i64 B1, .int .i64 C1, .int .i64 N1] 38); clear h HL; obtain ⟨y0, y1, y2, y3, y4, y5, _⟩ := row6 (HL3.out.held (p := (w.heap.size, _)) (List.Mem.tail _ (List.Mem.head _))))
          | (go_at_call 23; (with_reducible refine (HDN.out _ _ HL3.out).mono ?_); rintro e w4' ⟨rfl, h⟩; have HL4 := Lib.hid h; clear h))
        clear y0 y1 y2 y3 y4 y5
        go_loopw [15, 16, 17, 18, 19, 20, 21] (fun stV iV _ _ _ _ _ wr => ∃ (j : Nat) (T2 : Tb) (st : Int), iV = .int .i64 (j : Int) ∧ j ≤ N2 ∧ stV = .int .i64 st ∧ LvE w wr b T2 [(w.heap.size, .cells #[.int .i64 pe, .string ps, .int .i64 pa, .int .i64 pb, .int .i64 pc, .int .i64 pn] 38 (0, 0))] ∧ Onc id q ⟨pe, ps, pa, pb, pc, pn⟩ T2 ∧ st ≤ rk id q T2 ∧ 0 ≤ st) (fun _ iV _ _ _ _ _ _ => N2 - (intOf iV).toNat)
        case atStart => exact ⟨0, PT0, 0, rfl, Nat.zero_le _, rfl, HL4.out.less (fun p hp => List.mem_cons_of_mem _ hp), HON0.out, rk_pos _ _ _, Int.le_refl _⟩
        case round =>
          obtain ⟨j, T2, st, rfl, hj, rfl, hi⟩ := hrel
          have HI := Lib.hid hi
          clear hi
          by_cases hgo : j < N2 ∧ j < 200
          case neg =>
            have hgo' : j < N2 → ¬ j < 200 := fun a b => hgo ⟨a, b⟩
            clear hgo
            rcases Nat.lt_or_ge j N2 with hlt | hlt
            · have h2 := hgo' hlt
              have g1 : decide ((j : Int) < (N2 : Int)) = true := by simp; omega
              have g2 : decide (j < N2) = true := by simp; omega
              have g3 : decide ((j : Int) < 200) = false := by simp; omega
              have g4 : decide (j < 200) = false := by simp; omega
              clear hgo' hlt h2
              go_wp2_with fail
              go_ret
              exact ⟨rfl, HI.out.1.bel⟩
            · have g1 : decide ((j : Int) < (N2 : Int)) = false := by simp; omega
              have g2 : decide (j < N2) = false := by simp; omega
              clear hgo' hlt
              go_wp2_with fail
              go_ret
              exact ⟨rfl, HI.out.1.bel⟩
          case pos =>
            obtain ⟨hlt, h200⟩ := hgo
            have g1 : decide ((j : Int) < (N2 : Int)) = true := by simp; omega
            have g2 : decide (j < N2) = true := by simp; omega
            have g3 : decide ((j : Int) < 200) = true := by simp; omega
            have g4 : decide (j < 200) = true := by simp; omega
            have HLT := Lib.hid hlt
            have H200 := Lib.hid h200
            have i1 : (j : Int) < (N2 : Int) := by omega
            obtain ⟨x, hx⟩ : ∃ x, L2[j]? = some x := ⟨_, List.getElem?_eq_getElem (by have := HN2.out; omega)⟩
            obtain ⟨ba, off, hA0, hcells⟩ := act_at HA2.out hx
            obtain ⟨hxr, hxe⟩ := HX2.out x (List.mem_of_getElem? hx)
            have HPL : Hid (∀ X G, LvE w X b T2 G → Calls Try.prog 27 #[.pointer (some ⟨b, 0, none⟩), actV x] X fun e Y => e = .returned (.tuple #[]) ∧ LvE w Y b (play T2 x) G) := Lib.hid fun X G h => play_lv h x hxr hxe
            obtain ⟨p0, p1, p2, p3, p4, p5, p6, p7, p8, p9⟩ := hcells _ HI.out.1.bel
            obtain ⟨hon, hrk⟩ := onc_play HI.out.2.1 x hxr
            have hst := HI.out.2.2.1
            have HC1 : Hid (∀ X G, LvE w X b (play T2 x) G → Calls Try.prog 16 #[.pointer (some ⟨b, 0, none⟩), .int .i64 id, .int .i64 q] X fun e Y => e = .returned (.tuple #[.int .i64 (check (play T2 x) id q).1, rpV (check (play T2 x) id q).2]) ∧ LvE w Y b (play T2 x) G) := Lib.hid fun X G h => check_lv h id q
            have HC2 : Hid (∀ X G, LvE w X b (play T2 x) G → Calls Try.prog 16 #[.pointer (some ⟨b, 0, none⟩), .int .i64 id, .int .i64 (q + 1)] X fun e Y => e = .returned (.tuple #[.int .i64 (check (play T2 x) id (q + 1)).1, rpV (check (play T2 x) id (q + 1)).2]) ∧ LvE w Y b (play T2 x) G) := Lib.hid fun X G h => check_lv h id (q + 1)
            have hoc := onc_check hon HQ.out.1 HQ.out.2
            have HON := Lib.hid hon
            have HRL : Hid (st ≤ rk id q (play T2 x)) := Lib.hid (by omega)
            clear hcells hx hxr hxe hon hrk hst
            rw [hA0]
            unfold actV at HPL
            generalize play T2 x = PT at *
            obtain ⟨xk, xi, xq, xn, ⟨ye, ys, ya, yb, yc, yn⟩⟩ := x
            dsimp only at *
            have hq1 : q ≤ 4611686018427387904 := HQ.out.2
            have hq0 : 0 < q := HQ.out.1
            rcases hoc with ⟨hr, hc⟩ | ⟨hr, hc, hc'⟩ | ⟨hr, hc⟩
            · rw [hc] at HC1
              obtain ⟨⟨V2, E2, S2, A3, B3, C3, N3⟩, hk2⟩ : ∃ k2, check PT id (q + 1) = k2 := ⟨_, rfl⟩
              rw [hk2] at HC2
              rw [hr] at HRL
              have HR := Lib.hid hr
              dsimp only [rpV] at HC1 HC2
              have hs0 : st = 0 := by have := HRL.out; have := HI.out.2.2.2; omega
              have g5 : decide ((0 : Int) < st) = false := by simp; omega
              have g8 := fun W => eq38i pe ps pa pb pc pn W
              clear hc hr hk2 hs0
              go_wp2_with (first
                | (go_at_call 27; (with_reducible refine (HPL.out _ _ HI.out.1).mono ?_); rintro e w4 ⟨rfl, h⟩; have HL2 := Lib.hid h; clear h)
                | (go_at_call 16; (with_reducible refine (HC1.out _ _ HL2.out).mono ?_); rintro e w5 ⟨rfl, h⟩; have HL3 := Lib.hid (h.box #[.int .i64 pe, .string ps, .int .i64 pa, .int .i64 pb, .int .i64 pc, .int .i64 pn] 38); clear h HL2)
                | (go_at_call 16; (with_reducible refine (HC2.out _ _ HL3.out).mono ?_); rintro e w6 ⟨rfl, h⟩; have HL4 := Lib.hid (h.box #[.int .i64 E2, .string S2, .int .i64 A3, .int .i64 B3, .int .i64 C3, .int .i64 N3] 38); clear h HL3; obtain ⟨x0, x1, x2, x3, x4, x5, _⟩ := row6 (HL4.out.held (p := (w5.heap.size, _)) (List.Mem.tail _ (List.Mem.head _))); obtain ⟨y0, y1, y2, y3, y4, y5, _⟩ := row6 (HL4.out.held (p := (w.heap.size, _)) (List.Mem.tail _ (List.Mem.tail _ (List.Mem.head _))))))
              go_roundw
              case rel => exact ⟨j + 1, PT, 0, by go_num, Nat.succ_le_of_lt HLT.out, rfl, HL4.out.less (fun p hp => List.mem_cons_of_mem _ (List.mem_cons_of_mem _ hp)), HON.out, by rw [HR.out]; exact Int.le_refl _, Int.le_refl _⟩
              case measure => exact meas_lt HLT.out
            · obtain ⟨⟨V1, E1, S1, A3, B3, C3, N3⟩, hk1⟩ : ∃ k1, check PT id q = k1 := ⟨_, rfl⟩
              obtain ⟨⟨V2, E2, S2, A4, B4, C4, N4⟩, hk2⟩ : ∃ k2, check PT id (q + 1) = k2 := ⟨_, rfl⟩
              rw [hk1] at HC1 hc
              rw [hk2] at HC2 hc'
              rw [hr] at HRL
              have HR := Lib.hid hr
              dsimp only [rpV] at HC1 HC2 hc hc'
              subst hc
              have g5 : decide ((1 : Int) < st) = false := by have := HRL.out; simp; omega
              clear hr hk1 hk2
              rcases hc' with rfl | rfl
              all_goals
                go_wp2_with (first
                  | (go_at_call 27; (with_reducible refine (HPL.out _ _ HI.out.1).mono ?_); rintro e w4 ⟨rfl, h⟩; have HL2 := Lib.hid h; clear h)
                  | (go_at_call 16; (with_reducible refine (HC1.out _ _ HL2.out).mono ?_); rintro e w5 ⟨rfl, h⟩; have HL3 := Lib.hid (h.box #[.int .i64 E1, .string S1, .int .i64 A3, .int .i64 B3, .int .i64 C3, .int .i64 N3] 38); clear h HL2)
                  | (go_at_call 16; (with_reducible refine (HC2.out _ _ HL3.out).mono ?_); rintro e w6 ⟨rfl, h⟩; have HL4 := Lib.hid (h.box #[.int .i64 E2, .string S2, .int .i64 A4, .int .i64 B4, .int .i64 C4, .int .i64 N4] 38); clear h HL3))
                go_roundw
                case rel => exact ⟨j + 1, PT, 1, by go_num, Nat.succ_le_of_lt HLT.out, rfl, HL4.out.less (fun p hp => List.mem_cons_of_mem _ (List.mem_cons_of_mem _ hp)), HON.out, by rw [HR.out]; exact Int.le_refl _, by omega⟩
                case measure => exact meas_lt HLT.out
            · obtain ⟨⟨V1, E1, S1, A3, B3, C3, N3⟩, hk1⟩ : ∃ k1, check PT id q = k1 := ⟨_, rfl⟩
              obtain ⟨⟨V2, E2, S2, A4, B4, C4, N4⟩, hk2⟩ : ∃ k2, check PT id (q + 1) = k2 := ⟨_, rfl⟩
              rw [hk1] at HC1 hc
              rw [hk2] at HC2
              rw [hr] at HRL
              have HR := Lib.hid hr
              dsimp only [rpV] at HC1 HC2 hc
              subst hc
              have g5 : decide ((2 : Int) < st) = false := by have := HRL.out; simp; omega
              clear hr hk1 hk2
              go_wp2_with (first
                | (go_at_call 27; (with_reducible refine (HPL.out _ _ HI.out.1).mono ?_); rintro e w4 ⟨rfl, h⟩; have HL2 := Lib.hid h; clear h)
                | (go_at_call 16; (with_reducible refine (HC1.out _ _ HL2.out).mono ?_); rintro e w5 ⟨rfl, h⟩; have HL3 := Lib.hid (h.box #[.int .i64 E1, .string S1, .int .i64 A3, .int .i64 B3, .int .i64 C3, .int .i64 N3] 38); clear h HL2)
                | (go_at_call 16; (with_reducible refine (HC2.out _ _ HL3.out).mono ?_); rintro e w6 ⟨rfl, h⟩; have HL4 := Lib.hid (h.box #[.int .i64 E2, .string S2, .int .i64 A4, .int .i64 B4, .int .i64 C4, .int .i64 N4] 38); clear h HL3))
              go_roundw
              case rel => exact ⟨j + 1, PT, 2, by go_num, Nat.succ_le_of_lt HLT.out, rfl, HL4.out.less (fun p hp => List.mem_cons_of_mem _ (List.mem_cons_of_mem _ hp)), HON.out, by rw [HR.out]; exact Int.le_refl _, by omega⟩
              case measure => exact meas_lt HLT.out
      · have g1 : decide ((j : Int) < (N : Int)) = false := by simp; omega
        have g2 : decide (j < N) = false := by simp; omega
        clear hgo' hlt
        have HCK : Hid (∀ X G, LvE w X b T G → Calls Try.prog 16 #[.pointer (some ⟨b, 0, none⟩), .int .i64 id, .int .i64 q] X fun e Y => e = .returned (.tuple #[.int .i64 (check T id q).1, rpV (check T id q).2]) ∧ LvE w Y b T G) := Lib.hid fun X G h => check_lv h id q
        have HDN : Hid (∀ X G, LvE w X b T G → Calls Try.prog 23 #[.pointer (some ⟨b, 0, none⟩), .int .i64 id, .int .i64 q, .agg #[.int .i64 pe, .string ps, .int .i64 pa, .int .i64 pb, .int .i64 pc, .int .i64 pn]] X fun e Y => e = .returned (.int .i64 (done T id q ⟨pe, ps, pa, pb, pc, pn⟩).2) ∧ LvE w Y b (done T id q ⟨pe, ps, pa, pb, pc, pn⟩).1 G) := Lib.hid fun X G h => done_lv h id q HRI.out HRE.out
        have HONC : Hid ((check T id q).1 = 1 → (done T id q ⟨pe, ps, pa, pb, pc, pn⟩).2 = 0 → Onc id q ⟨pe, ps, pa, pb, pc, pn⟩ (done T id q ⟨pe, ps, pa, pb, pc, pn⟩).1 ∧ 0 < q ∧ q ≤ M) := Lib.hid fun h1 h2 => onc_new HL.out.inv HRI.out h1 h2
        generalize done T id q ⟨pe, ps, pa, pb, pc, pn⟩ = dn at *
        obtain ⟨PT0, de⟩ := dn
        generalize check T id q = ck at *
        obtain ⟨V, E, Sx, A1, B1, C1, N1⟩ := ck
        dsimp only [rpV] at HCK HDN HONC
        by_cases hv : V = 1
        case neg =>
          have f1 : (V != 1) = true := by simp [hv]
          go_wp2_with (go_at_call 16; (with_reducible refine (HCK.out _ _ HL.out).mono ?_); rintro e w3 ⟨rfl, h⟩; have HL3 := Lib.hid (h.box #[.int .i64 E, .string Sx, .int .i64 A1, .int .i64 B1, .int .i64 C1, .int .i64 N1] 38); clear h HL)
          go_ret
          exact ⟨rfl, HL3.out.bel⟩
        case pos =>
        subst hv
        by_cases hd : de = 0
        case neg =>
          have f2 : (de != 0) = true := by simp [hd]
          go_wp2_with (first
            | (go_at_call 16; (with_reducible refine (HCK.out _ _ HL.out).mono ?_); rintro e w3 ⟨rfl, h⟩; have HL3 := Lib.hid (h.box #[.int .i64 E, .string Sx, .int .i64 A1, .int .i64 B1, .int .i64 C1, .int .i64 N1] 38); clear h HL; obtain ⟨y0, y1, y2, y3, y4, y5, _⟩ := row6 (HL3.out.held (p := (w.heap.size, _)) (List.Mem.tail _ (List.Mem.head _))))
            | (go_at_call 23; (with_reducible refine (HDN.out _ _ HL3.out).mono ?_); rintro e w4' ⟨rfl, h⟩; have HL4 := Lib.hid h; clear h))
          go_ret
          exact ⟨rfl, HL4.out.bel⟩
        case pos =>
        subst hd
        obtain ⟨hon0, hq0, hqM⟩ := HONC.out rfl rfl
        have HON0 := Lib.hid hon0
        have HQ : Hid (0 < q ∧ q ≤ 4611686018427387904) := Lib.hid ⟨hq0, hqM⟩
        clear hon0 hq0 hqM
        go_wp2_with (first
          | (go_at_call 16; (with_reducible refine (HCK.out _ _ HL.out).mono ?_); rintro e w3 ⟨rfl, h⟩; have HL3 := Lib.hid (h.box #[.int .i64 E, .string Sx, .int .i64 A1, .int .i64 B1, .int .i64 C1, .int .i64 N1] 38); clear h HL; obtain ⟨y0, y1, y2, y3, y4, y5, _⟩ := row6 (HL3.out.held (p := (w.heap.size, _)) (List.Mem.tail _ (List.Mem.head _))))
          | (go_at_call 23; (with_reducible refine (HDN.out _ _ HL3.out).mono ?_); rintro e w4' ⟨rfl, h⟩; have HL4 := Lib.hid h; clear h))
        clear y0 y1 y2 y3 y4 y5
        go_loopw [15, 16, 17, 18, 19, 20, 21] (fun stV iV _ _ _ _ _ wr => ∃ (j : Nat) (T2 : Tb) (st : Int), iV = .int .i64 (j : Int) ∧ j ≤ N2 ∧ stV = .int .i64 st ∧ LvE w wr b T2 [(w.heap.size, .cells #[.int .i64 pe, .string ps, .int .i64 pa, .int .i64 pb, .int .i64 pc, .int .i64 pn] 38 (0, 0))] ∧ Onc id q ⟨pe, ps, pa, pb, pc, pn⟩ T2 ∧ st ≤ rk id q T2 ∧ 0 ≤ st) (fun _ iV _ _ _ _ _ _ => N2 - (intOf iV).toNat)
        case atStart => exact ⟨0, PT0, 0, rfl, Nat.zero_le _, rfl, HL4.out.less (fun p hp => List.mem_cons_of_mem _ hp), HON0.out, rk_pos _ _ _, Int.le_refl _⟩
        case round =>
          obtain ⟨j, T2, st, rfl, hj, rfl, hi⟩ := hrel
          have HI := Lib.hid hi
          clear hi
          by_cases hgo : j < N2 ∧ j < 200
          case neg =>
            have hgo' : j < N2 → ¬ j < 200 := fun a b => hgo ⟨a, b⟩
            clear hgo
            rcases Nat.lt_or_ge j N2 with hlt | hlt
            · have h2 := hgo' hlt
              have g1 : decide ((j : Int) < (N2 : Int)) = true := by simp; omega
              have g2 : decide (j < N2) = true := by simp; omega
              have g3 : decide ((j : Int) < 200) = false := by simp; omega
              have g4 : decide (j < 200) = false := by simp; omega
              clear hgo' hlt h2
              go_wp2_with fail
              go_ret
              exact ⟨rfl, HI.out.1.bel⟩
            · have g1 : decide ((j : Int) < (N2 : Int)) = false := by simp; omega
              have g2 : decide (j < N2) = false := by simp; omega
              clear hgo' hlt
              go_wp2_with fail
              go_ret
              exact ⟨rfl, HI.out.1.bel⟩
          case pos =>
            obtain ⟨hlt, h200⟩ := hgo
            have g1 : decide ((j : Int) < (N2 : Int)) = true := by simp; omega
            have g2 : decide (j < N2) = true := by simp; omega
            have g3 : decide ((j : Int) < 200) = true := by simp; omega
            have g4 : decide (j < 200) = true := by simp; omega
            have HLT := Lib.hid hlt
            have H200 := Lib.hid h200
            have i1 : (j : Int) < (N2 : Int) := by omega
            obtain ⟨x, hx⟩ : ∃ x, L2[j]? = some x := ⟨_, List.getElem?_eq_getElem (by have := HN2.out; omega)⟩
            obtain ⟨ba, off, hA0, hcells⟩ := act_at HA2.out hx
            obtain ⟨hxr, hxe⟩ := HX2.out x (List.mem_of_getElem? hx)
            have HPL : Hid (∀ X G, LvE w X b T2 G → Calls Try.prog 27 #[.pointer (some ⟨b, 0, none⟩), actV x] X fun e Y => e = .returned (.tuple #[]) ∧ LvE w Y b (play T2 x) G) := Lib.hid fun X G h => play_lv h x hxr hxe
            obtain ⟨p0, p1, p2, p3, p4, p5, p6, p7, p8, p9⟩ := hcells _ HI.out.1.bel
            obtain ⟨hon, hrk⟩ := onc_play HI.out.2.1 x hxr
            have hst := HI.out.2.2.1
            have HC1 : Hid (∀ X G, LvE w X b (play T2 x) G → Calls Try.prog 16 #[.pointer (some ⟨b, 0, none⟩), .int .i64 id, .int .i64 q] X fun e Y => e = .returned (.tuple #[.int .i64 (check (play T2 x) id q).1, rpV (check (play T2 x) id q).2]) ∧ LvE w Y b (play T2 x) G) := Lib.hid fun X G h => check_lv h id q
            have HC2 : Hid (∀ X G, LvE w X b (play T2 x) G → Calls Try.prog 16 #[.pointer (some ⟨b, 0, none⟩), .int .i64 id, .int .i64 (q + 1)] X fun e Y => e = .returned (.tuple #[.int .i64 (check (play T2 x) id (q + 1)).1, rpV (check (play T2 x) id (q + 1)).2]) ∧ LvE w Y b (play T2 x) G) := Lib.hid fun X G h => check_lv h id (q + 1)
            have hoc := onc_check hon HQ.out.1 HQ.out.2
            have HON := Lib.hid hon
            have HRL : Hid (st ≤ rk id q (play T2 x)) := Lib.hid (by omega)
            clear hcells hx hxr hxe hon hrk hst
            rw [hA0]
            unfold actV at HPL
            generalize play T2 x = PT at *
            obtain ⟨xk, xi, xq, xn, ⟨ye, ys, ya, yb, yc, yn⟩⟩ := x
            dsimp only at *
            have hq1 : q ≤ 4611686018427387904 := HQ.out.2
            have hq0 : 0 < q := HQ.out.1
            rcases hoc with ⟨hr, hc⟩ | ⟨hr, hc, hc'⟩ | ⟨hr, hc⟩
            · rw [hc] at HC1
              obtain ⟨⟨V2, E2, S2, A3, B3, C3, N3⟩, hk2⟩ : ∃ k2, check PT id (q + 1) = k2 := ⟨_, rfl⟩
              rw [hk2] at HC2
              rw [hr] at HRL
              have HR := Lib.hid hr
              dsimp only [rpV] at HC1 HC2
              have hs0 : st = 0 := by have := HRL.out; have := HI.out.2.2.2; omega
              have g5 : decide ((0 : Int) < st) = false := by simp; omega
              have g8 := fun W => eq38i pe ps pa pb pc pn W
              clear hc hr hk2 hs0
              go_wp2_with (first
                | (go_at_call 27; (with_reducible refine (HPL.out _ _ HI.out.1).mono ?_); rintro e w4 ⟨rfl, h⟩; have HL2 := Lib.hid h; clear h)
                | (go_at_call 16; (with_reducible refine (HC1.out _ _ HL2.out).mono ?_); rintro e w5 ⟨rfl, h⟩; have HL3 := Lib.hid (h.box #[.int .i64 pe, .string ps, .int .i64 pa, .int .i64 pb, .int .i64 pc, .int .i64 pn] 38); clear h HL2)
                | (go_at_call 16; (with_reducible refine (HC2.out _ _ HL3.out).mono ?_); rintro e w6 ⟨rfl, h⟩; have HL4 := Lib.hid (h.box #[.int .i64 E2, .string S2, .int .i64 A3, .int .i64 B3, .int .i64 C3, .int .i64 N3] 38); clear h HL3; obtain ⟨x0, x1, x2, x3, x4, x5, _⟩ := row6 (HL4.out.held (p := (w5.heap.size, _)) (List.Mem.tail _ (List.Mem.head _))); obtain ⟨y0, y1, y2, y3, y4, y5, _⟩ := row6 (HL4.out.held (p := (w.heap.size, _)) (List.Mem.tail _ (List.Mem.tail _ (List.Mem.head _))))))
              go_roundw
              case rel => exact ⟨j + 1, PT, 0, by go_num, Nat.succ_le_of_lt HLT.out, rfl, HL4.out.less (fun p hp => List.mem_cons_of_mem _ (List.mem_cons_of_mem _ hp)), HON.out, by rw [HR.out]; exact Int.le_refl _, Int.le_refl _⟩
              case measure => exact meas_lt HLT.out
            · obtain ⟨⟨V1, E1, S1, A3, B3, C3, N3⟩, hk1⟩ : ∃ k1, check PT id q = k1 := ⟨_, rfl⟩
              obtain ⟨⟨V2, E2, S2, A4, B4, C4, N4⟩, hk2⟩ : ∃ k2, check PT id (q + 1) = k2 := ⟨_, rfl⟩
              rw [hk1] at HC1 hc
              rw [hk2] at HC2 hc'
              rw [hr] at HRL
              have HR := Lib.hid hr
              dsimp only [rpV] at HC1 HC2 hc hc'
              subst hc
              have g5 : decide ((1 : Int) < st) = false := by have := HRL.out; simp; omega
              clear hr hk1 hk2
              rcases hc' with rfl | rfl
              all_goals
                go_wp2_with (first
                  | (go_at_call 27; (with_reducible refine (HPL.out _ _ HI.out.1).mono ?_); rintro e w4 ⟨rfl, h⟩; have HL2 := Lib.hid h; clear h)
                  | (go_at_call 16; (with_reducible refine (HC1.out _ _ HL2.out).mono ?_); rintro e w5 ⟨rfl, h⟩; have HL3 := Lib.hid (h.box #[.int .i64 E1, .string S1, .int .i64 A3, .int .i64 B3, .int .i64 C3, .int .i64 N3] 38); clear h HL2)
                  | (go_at_call 16; (with_reducible refine (HC2.out _ _ HL3.out).mono ?_); rintro e w6 ⟨rfl, h⟩; have HL4 := Lib.hid (h.box #[.int .i64 E2, .string S2, .int .i64 A4, .int .i64 B4, .int .i64 C4, .int .i64 N4] 38); clear h HL3))
                go_roundw
                case rel => exact ⟨j + 1, PT, 1, by go_num, Nat.succ_le_of_lt HLT.out, rfl, HL4.out.less (fun p hp => List.mem_cons_of_mem _ (List.mem_cons_of_mem _ hp)), HON.out, by rw [HR.out]; exact Int.le_refl _, by omega⟩
                case measure => exact meas_lt HLT.out
            · obtain ⟨⟨V1, E1, S1, A3, B3, C3, N3⟩, hk1⟩ : ∃ k1, check PT id q = k1 := ⟨_, rfl⟩
              obtain ⟨⟨V2, E2, S2, A4, B4, C4, N4⟩, hk2⟩ : ∃ k2, check PT id (q + 1) = k2 := ⟨_, rfl⟩
              rw [hk1] at HC1 hc
              rw [hk2] at HC2
              rw [hr] at HRL
              have HR := Lib.hid hr
              dsimp only [rpV] at HC1 HC2 hc
              subst hc
              have g5 : decide ((2 : Int) < st) = false := by have := HRL.out; simp; omega
              clear hr hk1 hk2
              go_wp2_with (first
                | (go_at_call 27; (with_reducible refine (HPL.out _ _ HI.out.1).mono ?_); rintro e w4 ⟨rfl, h⟩; have HL2 := Lib.hid h; clear h)
                | (go_at_call 16; (with_reducible refine (HC1.out _ _ HL2.out).mono ?_); rintro e w5 ⟨rfl, h⟩; have HL3 := Lib.hid (h.box #[.int .i64 E1, .string S1, .int .i64 A3, .int .i64 B3, .int .i64 C3, .int .i64 N3] 38); clear h HL2)
                | (go_at_call 16; (with_reducible refine (HC2.out _ _ HL3.out).mono ?_); rintro e w6 ⟨rfl, h⟩; have HL4 := Lib.hid (h.box #[.int .i64 E2, .string S2, .int .i64 A4, .int .i64 B4, .int .i64 C4, .int .i64 N4] 38); clear h HL3))
              go_roundw
              case rel => exact ⟨j + 1, PT, 2, by go_num, Nat.succ_le_of_lt HLT.out, rfl, HL4.out.less (fun p hp => List.mem_cons_of_mem _ (List.mem_cons_of_mem _ hp)), HON.out, by rw [HR.out]; exact Int.le_refl _, by omega⟩
              case measure => exact meas_lt HLT.out
    case pos =>
      obtain ⟨hlt, h200⟩ := hgo
      have g1 : decide ((j : Int) < (N : Int)) = true := by simp; omega
      have g2 : decide (j < N) = true := by simp; omega
      have g3 : decide ((j : Int) < 200) = true := by simp; omega
      have g4 : decide (j < 200) = true := by simp; omega
      have HLT := Lib.hid hlt
      have i1 : (j : Int) < (N : Int) := by omega
      obtain ⟨x, hx⟩ : ∃ x, L0[j]? = some x := ⟨_, List.getElem?_eq_getElem (by have := HN.out; omega)⟩
      obtain ⟨ba, off, hA0, hcells⟩ := act_at HA.out hx
      obtain ⟨hxr, hxe⟩ := HX.out x (List.mem_of_getElem? hx)
      have HPL : Hid (∀ X, LvE w X b T [(w.heap.size, .cells #[.int .i64 pe, .string ps, .int .i64 pa, .int .i64 pb, .int .i64 pc, .int .i64 pn] 38 (0, 0))] → Calls Try.prog 27 #[.pointer (some ⟨b, 0, none⟩), actV x] X fun e Y => e = .returned (.tuple #[]) ∧ LvE w Y b (play T x) [(w.heap.size, .cells #[.int .i64 pe, .string ps, .int .i64 pa, .int .i64 pb, .int .i64 pc, .int .i64 pn] 38 (0, 0))]) := Lib.hid fun X h => play_lv h x hxr hxe
      obtain ⟨p0, p1, p2, p3, p4, p5, p6, p7, p8, p9⟩ := hcells _ HL.out.bel
      clear hcells hx hxr hxe
      rw [hA0]
      generalize play T x = PT at *
      unfold actV at HPL
      go_wp2_with (go_at_call 27; (with_reducible refine (HPL.out _ HL.out).mono ?_); rintro e w2 ⟨rfl, h⟩; have HL2 := Lib.hid h; clear h)
      go_roundw
      case rel => exact ⟨j + 1, PT, by go_num, Nat.succ_le_of_lt HLT.out, HL2.out⟩
      case measure => exact meas_lt HLT.out
end Go.Proofs.Ytbbfjlkgfaniaaa
