import Derived.Test.YtphclpjekpdifaaArz
import Derived.Test.YtphclpjekpdifaaUd
namespace Go.Proofs.Ytphclpjekpdifaa
set_option maxRecDepth 20000
open Go.RowKit
open SP
open Go.Proofs.Ytphclpjekpdifaa.Nm (str)
open Wi (RetBelow)
set_option linter.unusedVariables false
theorem eq38i (o : Int) (s : ByteArray) (a b c n : Int) (w : World) : (Op.equalIn 10000 27 (.agg #[.int .i64 o, .string s, .int .i64 a, .int .i64 b, .int .i64 c, .int .i64 n]) (.agg #[.int .i64 o, .string s, .int .i64 a, .int .i64 b, .int .i64 c, .int .i64 n])).run Try.prog w = .ok true w := by
  have := Wi.eq34 o s a b c n o s a b c n w
  unfold Wi.rV at this
  rw [this, show Wi.eqR o s a b c n o s a b c n = true from Wi.eqR_iff.2 ⟨rfl, rfl, ⟨rfl, rfl, rfl⟩, rfl⟩]
theorem packed_any (o : Int) (s : ByteArray) (a b c n : Int) (w : World) (hs : s.size ≤ 281474976710656) (ho : I64 o) (ha : I64 a) (hb : I64 b) (hc : I64 c) (hn : I64 n) : Calls Try.prog 10 #[.agg #[.int .i64 o, .string s, .int .i64 a, .int .i64 b, .int .i64 c, .int .i64 n]] w (RetBelow (.bool (Wi.mayR o s)) w) := by
  have HP := Lib.hid fun (X : World) => Wi.refPack_any o s a b c n X hs ho ha hb hc hn
  have HB := Lib.hid ((Below.refl w.heap.size w).alloc (Nat.le_refl _) (.cells #[.int .i64 o, .string s, .int .i64 a, .int .i64 b, .int .i64 c, .int .i64 n] 27))
  obtain ⟨x0, x1, x2, x3, x4, x5, _⟩ := row6 (heap_alloc_new w (.cells #[.int .i64 o, .string s, .int .i64 a, .int .i64 b, .int .i64 c, .int .i64 n] 27))
  have HE : Hid (decide (Wi.errR o s a b c n = 0) = Wi.mayR o s) := Lib.hid (by unfold Wi.errR; cases Wi.mayR o s <;> rfl)
  have HE2 : Hid ((Wi.errR o s a b c n == 0) = Wi.mayR o s) := Lib.hid (by unfold Wi.errR; cases Wi.mayR o s <;> rfl)
  clear hs ho ha hb hc hn
  go_enter Try.func10, Try.ntmps10
  go_wp2_with (go_at_call 23; (with_reducible refine (HP.out _).mono ?_); rintro e w1 ⟨rfl, hb⟩; have HB1 := Lib.hid (HB.out.trans (hb.mono HB.out.size)); clear hb)
  go_ret
  exact ⟨by first | exact congrArg (fun x => Ending.returned (.bool x)) HE2.out | exact congrArg (fun x => Ending.returned (.bool x)) HE.out | rfl, HB1.out⟩
set_option maxHeartbeats 32000000 in
theorem law_errors (L0 : List SP.Act) (A : Option Addr) (N c0 : Nat) (id q : Int) (r : Rp) (w : World) (hA : Rws DA w w.heap.size A L0) (hN : L0.length = N) (hX : ∀ x ∈ L0, ActX x) (hri : RpI r) (hre : I64 r.e) (hrz : r.s.size ≤ 281474976710656) : Calls Try.prog 3 #[.slice A N c0, .int .i64 id, .int .i64 q, rpV r] w (RetBelow (.bool true) w) := by
  have HRI := Lib.hid hri
  have HRE := Lib.hid hre
  have HRZ := Lib.hid hrz
  clear hri hre hrz
  unfold rpV
  obtain ⟨pe, ps, pa, pb, pc, pn⟩ := r
  dsimp only at *
  have HA := Lib.hid hA
  have HN := Lib.hid hN
  have HX := Lib.hid hX
  have HB := Lib.hid (Below.refl w.heap.size w)
  have HAW := Lib.hid fun X : World => awake_any X
  have HB1 := Lib.hid ((Below.refl w.heap.size w).alloc (Nat.le_refl _) (.cells #[.int .i64 pe, .string ps, .int .i64 pa, .int .i64 pb, .int .i64 pc, .int .i64 pn] 27))
  have HRW := Lib.hid (heap_alloc_new w (.cells #[.int .i64 pe, .string ps, .int .i64 pa, .int .i64 pb, .int .i64 pc, .int .i64 pn] 27))
  have HNW : Hid (∀ X, Below w.heap.size w X → X.heap[w.heap.size]? = some (.cells #[.int .i64 pe, .string ps, .int .i64 pa, .int .i64 pb, .int .i64 pc, .int .i64 pn] 27 (0, 0)) → Calls Try.prog 5 #[] X fun e Y => ∃ b, e = .returned (.pointer (some ⟨b, 0, none⟩)) ∧ LvE w Y b t0 [(w.heap.size, .cells #[.int .i64 pe, .string ps, .int .i64 pa, .int .i64 pb, .int .i64 pc, .int .i64 pn] 27 (0, 0))]) := Lib.hid fun X h hh => new_lv h _ (fun p hp => by obtain rfl := List.mem_singleton.1 hp; exact hh)
  clear hA hX hN
  go_enter Try.func3, Try.ntmps3
  go_wp2_with (first | (go_at_call 4; (with_reducible refine (HAW.out _).mono ?_); rintro e w0 ⟨rfl, hb⟩; have HB0 := Lib.hid (HB1.out.trans (hb.mono HB1.out.size)); have HRW0 := Lib.hid ((hb.block w.heap.size (by simp)).trans HRW.out); clear hb) | (go_at_call 5; (with_reducible refine (HNW.out _ HB0.out HRW0.out).mono ?_); rintro e w1 ⟨b, rfl, h⟩; have HL0 := Lib.hid h; clear h))
  go_loopw [10] (fun iV wr => ∃ (j : Nat) (T : Tb), iV = .int .i64 (j : Int) ∧ j ≤ N ∧ LvE w wr b T [(w.heap.size, .cells #[.int .i64 pe, .string ps, .int .i64 pa, .int .i64 pb, .int .i64 pc, .int .i64 pn] 27 (0, 0))]) (fun iV _ => N - (intOf iV).toNat)
  case atStart => exact ⟨0, _, rfl, Nat.zero_le _, HL0.out⟩
  case round =>
    obtain ⟨j, T, rfl, hj, hl⟩ := hrel
    have HL := Lib.hid hl
    clear hl
    by_cases hgo : j < N ∧ j < 200
    case neg =>
      have hgo' : j < N → ¬ j < 200 := fun a b => hgo ⟨a, b⟩
      clear hgo
      rcases Nat.lt_or_ge j N with hlt | hlt
      · have h2 := hgo' hlt
        have g1 : decide ((j : Int) < (N : Int)) = true := by simp; omega
        have g2 : decide (j < N) = true := by simp; omega
        have g3 : decide ((j : Int) < 200) = false := by simp; omega
        have g4 : decide (j < 200) = false := by simp; omega
        clear hgo' hlt h2
        have HCK : Hid (∀ X G, LvE w X b T G → Calls Try.prog 8 #[.pointer (some ⟨b, 0, none⟩), .int .i64 id, .int .i64 q] X fun e Y => e = .returned (.tuple #[.int .i64 (check T id q).1, rpV (check T id q).2]) ∧ LvE w Y b T G) := Lib.hid fun X G h => check_lv h id q
        have HSV := Lib.hid fun (X : World) (G : List (Nat × Obj)) (h : LvE w X b T G) => save_lv h
        have HDN : Hid (∀ X G, LvE w X b T G → Calls Try.prog 9 #[.pointer (some ⟨b, 0, none⟩), .int .i64 id, .int .i64 q, .agg #[.int .i64 pe, .string ps, .int .i64 pa, .int .i64 pb, .int .i64 pc, .int .i64 pn]] X fun e Y => e = .returned (.int .i64 (done T id q ⟨pe, ps, pa, pb, pc, pn⟩).2) ∧ LvE w Y b (done T id q ⟨pe, ps, pa, pb, pc, pn⟩).1 G) := Lib.hid fun X G h => done_lv h id q HRI.out HRE.out
        have HC2 : Hid (∀ X G, LvE w X b (done T id q ⟨pe, ps, pa, pb, pc, pn⟩).1 G → Calls Try.prog 8 #[.pointer (some ⟨b, 0, none⟩), .int .i64 id, .int .i64 q] X fun e Y => e = .returned (.tuple #[.int .i64 (check (done T id q ⟨pe, ps, pa, pb, pc, pn⟩).1 id q).1, rpV (check (done T id q ⟨pe, ps, pa, pb, pc, pn⟩).1 id q).2]) ∧ LvE w Y b (done T id q ⟨pe, ps, pa, pb, pc, pn⟩).1 G) := Lib.hid fun X G h => check_lv h id q
        have HPK : Hid (∀ X, Calls Try.prog 10 #[.agg #[.int .i64 pe, .string ps, .int .i64 pa, .int .i64 pb, .int .i64 pc, .int .i64 pn]] X (RetBelow (.bool (Wi.mayR pe ps)) X)) := Lib.hid fun X => packed_any pe ps pa pb pc pn X HRZ.out HRE.out HRI.out.a HRI.out.b HRI.out.c HRI.out.n
        have HINV := Lib.hid HL.out.inv
        generalize save T = TX at *
        have k1 : 2 < (check T id q).1 → done T id q ⟨pe, ps, pa, pb, pc, pn⟩ = (T, (check T id q).2.e) := fun h => done_no h
        have k2 : ¬ 2 < (check T id q).1 → Wi.mayR pe ps = false → done T id q ⟨pe, ps, pa, pb, pc, pn⟩ = (T, 4) := fun h h2 => done_form h h2
        have k3 : ¬ 2 < (check T id q).1 → Wi.mayR pe ps = true → (done T id q ⟨pe, ps, pa, pb, pc, pn⟩).2 = 0 ∧ (check (done T id q ⟨pe, ps, pa, pb, pc, pn⟩).1 id q).1 = 2 ∧ ((check T id q).1 = 1 ∧ (check (done T id q ⟨pe, ps, pa, pb, pc, pn⟩).1 id q).2 = ⟨pe, ps, pa, pb, pc, pn⟩ ∨ (check T id q).1 = 2 ∧ (check (done T id q ⟨pe, ps, pa, pb, pc, pn⟩).1 id q).2 = (check T id q).2) := fun h h2 => done_yes HINV.out h h2
        have g5 : (TX == TX) = true := (beq_toListBytes _ _).trans (beq_self_eq_true _)
        have g6 : (TX.toList == TX.toList) = true := beq_self_eq_true _
        have HK1 := Lib.hid k1
        have HK2 := Lib.hid k2
        have HK3 := Lib.hid k3
        clear k1 k2 k3
        generalize done T id q ⟨pe, ps, pa, pb, pc, pn⟩ = dn at HCK HDN HC2 HK1 HK2 HK3 ⊢
        obtain ⟨PT0, de⟩ := dn
        generalize check T id q = ck at HCK HDN HC2 HK1 HK2 HK3 ⊢
        obtain ⟨V, E, Sx, A1, B1, C1, N1⟩ := ck
        dsimp only [rpV] at HCK HDN HC2 HK1 HK2 HK3
        by_cases hv : 2 < V
        case pos =>
          obtain ⟨q1, q2⟩ := Prod.mk.inj (HK1.out hv)
          have q2 := q2.symm
          subst q1
          subst q2
          have f1 : decide (2 < V) = true := by simpa using hv
          have f2 : decide (V > 2) = true := by simpa using hv
          clear hv
          go_wp2_with (first | (go_at_call 7; (with_reducible refine (HSV.out _ _ HL.out).mono ?_); rintro e w2 ⟨rfl, h⟩; have HL1 := Lib.hid h; clear h) | (go_at_call 8; (with_reducible refine (HCK.out _ _ HL1.out).mono ?_); rintro e w3 ⟨rfl, h⟩; have HL3 := Lib.hid (h.box #[.int .i64 E, .string Sx, .int .i64 A1, .int .i64 B1, .int .i64 C1, .int .i64 N1] 27); clear h; obtain ⟨y0, y1, y2, y3, y4, y5, _⟩ := row6 (HL3.out.held (p := (w.heap.size, _)) (List.Mem.tail _ (List.Mem.head _))); obtain ⟨z0, z1, z2, z3, z4, z5, _⟩ := row6 (HL3.out.held (p := (w3.heap.size, _)) (List.Mem.head _))) | (go_at_call 9; (with_reducible refine (HDN.out _ _ HL3.out).mono ?_); rintro e w4 ⟨rfl, h⟩; have HL4 := Lib.hid h; clear h; obtain ⟨u0, u1, u2, u3, u4, u5, _⟩ := row6 (HL4.out.held (p := (w3.heap.size, _)) (List.Mem.head _)); obtain ⟨v0, v1, v2, v3, v4, v5, _⟩ := row6 (HL4.out.held (p := (w.heap.size, _)) (List.Mem.tail _ (List.Mem.head _)))) | (go_at_call 7; (with_reducible refine (HSV.out _ _ HL4.out).mono ?_); rintro e w5 ⟨rfl, h⟩; have HL5 := Lib.hid h; clear h))
          go_ret
          exact ⟨rfl, HL5.out.bel⟩
        case neg =>
        have f1 : decide (2 < V) = false := by simp; omega
        have f2 : decide (V > 2) = false := by simp; omega
        by_cases hm : Wi.mayR pe ps = true
        case neg =>
          have hm' : Wi.mayR pe ps = false := by simpa using hm
          obtain ⟨rfl, rfl⟩ := Prod.mk.inj (HK2.out hv hm')
          rw [hm'] at HPK
          clear hv hm hm'
          go_wp2_with (first | (go_at_call 7; (with_reducible refine (HSV.out _ _ HL.out).mono ?_); rintro e w2 ⟨rfl, h⟩; have HL1 := Lib.hid h; clear h) | (go_at_call 8; (with_reducible refine (HCK.out _ _ HL1.out).mono ?_); rintro e w3 ⟨rfl, h⟩; have HL3 := Lib.hid (h.box #[.int .i64 E, .string Sx, .int .i64 A1, .int .i64 B1, .int .i64 C1, .int .i64 N1] 27); clear h; obtain ⟨y0, y1, y2, y3, y4, y5, _⟩ := row6 (HL3.out.held (p := (w.heap.size, _)) (List.Mem.tail _ (List.Mem.head _))); obtain ⟨z0, z1, z2, z3, z4, z5, _⟩ := row6 (HL3.out.held (p := (w3.heap.size, _)) (List.Mem.head _))) | (go_at_call 9; (with_reducible refine (HDN.out _ _ HL3.out).mono ?_); rintro e w4 ⟨rfl, h⟩; have HL4 := Lib.hid h; clear h; obtain ⟨u0, u1, u2, u3, u4, u5, _⟩ := row6 (HL4.out.held (p := (w3.heap.size, _)) (List.Mem.head _)); obtain ⟨v0, v1, v2, v3, v4, v5, _⟩ := row6 (HL4.out.held (p := (w.heap.size, _)) (List.Mem.tail _ (List.Mem.head _)))) | (go_at_call 10; (with_reducible refine (HPK.out _).mono ?_); rintro e w5 ⟨rfl, hb⟩; have HL5 := Lib.hid (HL4.out.below hb); clear hb) | (go_at_call 7; (with_reducible refine (HSV.out _ _ HL5.out).mono ?_); rintro e w6 ⟨rfl, h⟩; have HL6 := Lib.hid h; clear h))
          go_ret
          exact ⟨rfl, HL6.out.bel⟩
        case pos =>
          obtain ⟨r1, r2, r3⟩ := HK3.out hv hm
          rw [hm] at HPK
          try dsimp only at r1 r2 r3
          subst r1
          generalize check PT0 id q = ck2 at HC2 r2 r3
          obtain ⟨V2, E2, S2, A2, B2, C2, N2⟩ := ck2
          dsimp only [rpV] at HC2 r2 r3
          subst r2
          clear hm hv
          rcases r3 with ⟨rfl, r3⟩ | ⟨rfl, r3⟩
          · injection r3 with r31 r32 r33 r34 r35 r36
            subst r31 r32 r33 r34 r35 r36
            have g8 := fun W => eq38i E2 S2 A2 B2 C2 N2 W
            go_wp2_with (first | (go_at_call 7; (with_reducible refine (HSV.out _ _ HL.out).mono ?_); rintro e w2 ⟨rfl, h⟩; have HL1 := Lib.hid h; clear h) | (go_at_call 8; (with_reducible refine (HCK.out _ _ HL1.out).mono ?_); rintro e w3 ⟨rfl, h⟩; have HL3 := Lib.hid (h.box #[.int .i64 E, .string Sx, .int .i64 A1, .int .i64 B1, .int .i64 C1, .int .i64 N1] 27); clear h; obtain ⟨y0, y1, y2, y3, y4, y5, _⟩ := row6 (HL3.out.held (p := (w.heap.size, _)) (List.Mem.tail _ (List.Mem.head _))); obtain ⟨z0, z1, z2, z3, z4, z5, _⟩ := row6 (HL3.out.held (p := (w3.heap.size, _)) (List.Mem.head _))) | (go_at_call 9; (with_reducible refine (HDN.out _ _ HL3.out).mono ?_); rintro e w4 ⟨rfl, h⟩; have HL4 := Lib.hid h; clear h; obtain ⟨u0, u1, u2, u3, u4, u5, _⟩ := row6 (HL4.out.held (p := (w3.heap.size, _)) (List.Mem.head _)); obtain ⟨v0, v1, v2, v3, v4, v5, _⟩ := row6 (HL4.out.held (p := (w.heap.size, _)) (List.Mem.tail _ (List.Mem.head _)))) | (go_at_call 10; (with_reducible refine (HPK.out _).mono ?_); rintro e w5 ⟨rfl, hb⟩; have HL5 := Lib.hid (HL4.out.below hb); clear hb) | (go_at_call 8; (with_reducible refine (HC2.out _ _ HL5.out).mono ?_); rintro e w6 ⟨rfl, h⟩; have HL6 := Lib.hid (h.box #[.int .i64 E2, .string S2, .int .i64 A2, .int .i64 B2, .int .i64 C2, .int .i64 N2] 27); clear h; obtain ⟨x0, x1, x2, x3, x4, x5, _⟩ := row6 (HL6.out.held (p := (w6.heap.size, _)) (List.Mem.head _)); obtain ⟨s0, s1, s2, s3, s4, s5, _⟩ := row6 (HL6.out.held (p := (w3.heap.size, _)) (List.Mem.tail _ (List.Mem.head _))); obtain ⟨t0, t1, t2, t3, t4, t5, _⟩ := row6 (HL6.out.held (p := (w.heap.size, _)) (List.Mem.tail _ (List.Mem.tail _ (List.Mem.head _))))))
            go_ret
            exact ⟨rfl, HL6.out.bel⟩
          · injection r3 with r31 r32 r33 r34 r35 r36
            have r31 := r31.symm
            have r32 := r32.symm
            have r33 := r33.symm
            have r34 := r34.symm
            have r35 := r35.symm
            have r36 := r36.symm
            subst r31 r32 r33 r34 r35 r36
            have g8 := fun W => eq38i E Sx A1 B1 C1 N1 W
            go_wp2_with (first | (go_at_call 7; (with_reducible refine (HSV.out _ _ HL.out).mono ?_); rintro e w2 ⟨rfl, h⟩; have HL1 := Lib.hid h; clear h) | (go_at_call 8; (with_reducible refine (HCK.out _ _ HL1.out).mono ?_); rintro e w3 ⟨rfl, h⟩; have HL3 := Lib.hid (h.box #[.int .i64 E, .string Sx, .int .i64 A1, .int .i64 B1, .int .i64 C1, .int .i64 N1] 27); clear h; obtain ⟨y0, y1, y2, y3, y4, y5, _⟩ := row6 (HL3.out.held (p := (w.heap.size, _)) (List.Mem.tail _ (List.Mem.head _))); obtain ⟨z0, z1, z2, z3, z4, z5, _⟩ := row6 (HL3.out.held (p := (w3.heap.size, _)) (List.Mem.head _))) | (go_at_call 9; (with_reducible refine (HDN.out _ _ HL3.out).mono ?_); rintro e w4 ⟨rfl, h⟩; have HL4 := Lib.hid h; clear h; obtain ⟨u0, u1, u2, u3, u4, u5, _⟩ := row6 (HL4.out.held (p := (w3.heap.size, _)) (List.Mem.head _)); obtain ⟨v0, v1, v2, v3, v4, v5, _⟩ := row6 (HL4.out.held (p := (w.heap.size, _)) (List.Mem.tail _ (List.Mem.head _)))) | (go_at_call 10; (with_reducible refine (HPK.out _).mono ?_); rintro e w5 ⟨rfl, hb⟩; have HL5 := Lib.hid (HL4.out.below hb); clear hb) | (go_at_call 8; (with_reducible refine (HC2.out _ _ HL5.out).mono ?_); rintro e w6 ⟨rfl, h⟩; have HL6 := Lib.hid (h.box #[.int .i64 E, .string Sx, .int .i64 A1, .int .i64 B1, .int .i64 C1, .int .i64 N1] 27); clear h; obtain ⟨x0, x1, x2, x3, x4, x5, _⟩ := row6 (HL6.out.held (p := (w6.heap.size, _)) (List.Mem.head _)); obtain ⟨s0, s1, s2, s3, s4, s5, _⟩ := row6 (HL6.out.held (p := (w3.heap.size, _)) (List.Mem.tail _ (List.Mem.head _))); obtain ⟨t0, t1, t2, t3, t4, t5, _⟩ := row6 (HL6.out.held (p := (w.heap.size, _)) (List.Mem.tail _ (List.Mem.tail _ (List.Mem.head _))))))
            go_ret
            exact ⟨rfl, HL6.out.bel⟩
      · have g1 : decide ((j : Int) < (N : Int)) = false := by simp; omega
        have g2 : decide (j < N) = false := by simp; omega
        clear hgo' hlt
        have HCK : Hid (∀ X G, LvE w X b T G → Calls Try.prog 8 #[.pointer (some ⟨b, 0, none⟩), .int .i64 id, .int .i64 q] X fun e Y => e = .returned (.tuple #[.int .i64 (check T id q).1, rpV (check T id q).2]) ∧ LvE w Y b T G) := Lib.hid fun X G h => check_lv h id q
        have HSV := Lib.hid fun (X : World) (G : List (Nat × Obj)) (h : LvE w X b T G) => save_lv h
        have HDN : Hid (∀ X G, LvE w X b T G → Calls Try.prog 9 #[.pointer (some ⟨b, 0, none⟩), .int .i64 id, .int .i64 q, .agg #[.int .i64 pe, .string ps, .int .i64 pa, .int .i64 pb, .int .i64 pc, .int .i64 pn]] X fun e Y => e = .returned (.int .i64 (done T id q ⟨pe, ps, pa, pb, pc, pn⟩).2) ∧ LvE w Y b (done T id q ⟨pe, ps, pa, pb, pc, pn⟩).1 G) := Lib.hid fun X G h => done_lv h id q HRI.out HRE.out
        have HC2 : Hid (∀ X G, LvE w X b (done T id q ⟨pe, ps, pa, pb, pc, pn⟩).1 G → Calls Try.prog 8 #[.pointer (some ⟨b, 0, none⟩), .int .i64 id, .int .i64 q] X fun e Y => e = .returned (.tuple #[.int .i64 (check (done T id q ⟨pe, ps, pa, pb, pc, pn⟩).1 id q).1, rpV (check (done T id q ⟨pe, ps, pa, pb, pc, pn⟩).1 id q).2]) ∧ LvE w Y b (done T id q ⟨pe, ps, pa, pb, pc, pn⟩).1 G) := Lib.hid fun X G h => check_lv h id q
        have HPK : Hid (∀ X, Calls Try.prog 10 #[.agg #[.int .i64 pe, .string ps, .int .i64 pa, .int .i64 pb, .int .i64 pc, .int .i64 pn]] X (RetBelow (.bool (Wi.mayR pe ps)) X)) := Lib.hid fun X => packed_any pe ps pa pb pc pn X HRZ.out HRE.out HRI.out.a HRI.out.b HRI.out.c HRI.out.n
        have HINV := Lib.hid HL.out.inv
        generalize save T = TX at *
        have k1 : 2 < (check T id q).1 → done T id q ⟨pe, ps, pa, pb, pc, pn⟩ = (T, (check T id q).2.e) := fun h => done_no h
        have k2 : ¬ 2 < (check T id q).1 → Wi.mayR pe ps = false → done T id q ⟨pe, ps, pa, pb, pc, pn⟩ = (T, 4) := fun h h2 => done_form h h2
        have k3 : ¬ 2 < (check T id q).1 → Wi.mayR pe ps = true → (done T id q ⟨pe, ps, pa, pb, pc, pn⟩).2 = 0 ∧ (check (done T id q ⟨pe, ps, pa, pb, pc, pn⟩).1 id q).1 = 2 ∧ ((check T id q).1 = 1 ∧ (check (done T id q ⟨pe, ps, pa, pb, pc, pn⟩).1 id q).2 = ⟨pe, ps, pa, pb, pc, pn⟩ ∨ (check T id q).1 = 2 ∧ (check (done T id q ⟨pe, ps, pa, pb, pc, pn⟩).1 id q).2 = (check T id q).2) := fun h h2 => done_yes HINV.out h h2
        have g5 : (TX == TX) = true := (beq_toListBytes _ _).trans (beq_self_eq_true _)
        have g6 : (TX.toList == TX.toList) = true := beq_self_eq_true _
        have HK1 := Lib.hid k1
        have HK2 := Lib.hid k2
        have HK3 := Lib.hid k3
        clear k1 k2 k3
        generalize done T id q ⟨pe, ps, pa, pb, pc, pn⟩ = dn at HCK HDN HC2 HK1 HK2 HK3 ⊢
        obtain ⟨PT0, de⟩ := dn
        generalize check T id q = ck at HCK HDN HC2 HK1 HK2 HK3 ⊢
        obtain ⟨V, E, Sx, A1, B1, C1, N1⟩ := ck
        dsimp only [rpV] at HCK HDN HC2 HK1 HK2 HK3
        by_cases hv : 2 < V
        case pos =>
          obtain ⟨q1, q2⟩ := Prod.mk.inj (HK1.out hv)
          have q2 := q2.symm
          subst q1
          subst q2
          have f1 : decide (2 < V) = true := by simpa using hv
          have f2 : decide (V > 2) = true := by simpa using hv
          clear hv
          go_wp2_with (first | (go_at_call 7; (with_reducible refine (HSV.out _ _ HL.out).mono ?_); rintro e w2 ⟨rfl, h⟩; have HL1 := Lib.hid h; clear h) | (go_at_call 8; (with_reducible refine (HCK.out _ _ HL1.out).mono ?_); rintro e w3 ⟨rfl, h⟩; have HL3 := Lib.hid (h.box #[.int .i64 E, .string Sx, .int .i64 A1, .int .i64 B1, .int .i64 C1, .int .i64 N1] 27); clear h; obtain ⟨y0, y1, y2, y3, y4, y5, _⟩ := row6 (HL3.out.held (p := (w.heap.size, _)) (List.Mem.tail _ (List.Mem.head _))); obtain ⟨z0, z1, z2, z3, z4, z5, _⟩ := row6 (HL3.out.held (p := (w3.heap.size, _)) (List.Mem.head _))) | (go_at_call 9; (with_reducible refine (HDN.out _ _ HL3.out).mono ?_); rintro e w4 ⟨rfl, h⟩; have HL4 := Lib.hid h; clear h; obtain ⟨u0, u1, u2, u3, u4, u5, _⟩ := row6 (HL4.out.held (p := (w3.heap.size, _)) (List.Mem.head _)); obtain ⟨v0, v1, v2, v3, v4, v5, _⟩ := row6 (HL4.out.held (p := (w.heap.size, _)) (List.Mem.tail _ (List.Mem.head _)))) | (go_at_call 7; (with_reducible refine (HSV.out _ _ HL4.out).mono ?_); rintro e w5 ⟨rfl, h⟩; have HL5 := Lib.hid h; clear h))
          go_ret
          exact ⟨rfl, HL5.out.bel⟩
        case neg =>
        have f1 : decide (2 < V) = false := by simp; omega
        have f2 : decide (V > 2) = false := by simp; omega
        by_cases hm : Wi.mayR pe ps = true
        case neg =>
          have hm' : Wi.mayR pe ps = false := by simpa using hm
          obtain ⟨rfl, rfl⟩ := Prod.mk.inj (HK2.out hv hm')
          rw [hm'] at HPK
          clear hv hm hm'
          go_wp2_with (first | (go_at_call 7; (with_reducible refine (HSV.out _ _ HL.out).mono ?_); rintro e w2 ⟨rfl, h⟩; have HL1 := Lib.hid h; clear h) | (go_at_call 8; (with_reducible refine (HCK.out _ _ HL1.out).mono ?_); rintro e w3 ⟨rfl, h⟩; have HL3 := Lib.hid (h.box #[.int .i64 E, .string Sx, .int .i64 A1, .int .i64 B1, .int .i64 C1, .int .i64 N1] 27); clear h; obtain ⟨y0, y1, y2, y3, y4, y5, _⟩ := row6 (HL3.out.held (p := (w.heap.size, _)) (List.Mem.tail _ (List.Mem.head _))); obtain ⟨z0, z1, z2, z3, z4, z5, _⟩ := row6 (HL3.out.held (p := (w3.heap.size, _)) (List.Mem.head _))) | (go_at_call 9; (with_reducible refine (HDN.out _ _ HL3.out).mono ?_); rintro e w4 ⟨rfl, h⟩; have HL4 := Lib.hid h; clear h; obtain ⟨u0, u1, u2, u3, u4, u5, _⟩ := row6 (HL4.out.held (p := (w3.heap.size, _)) (List.Mem.head _)); obtain ⟨v0, v1, v2, v3, v4, v5, _⟩ := row6 (HL4.out.held (p := (w.heap.size, _)) (List.Mem.tail _ (List.Mem.head _)))) | (go_at_call 10; (with_reducible refine (HPK.out _).mono ?_); rintro e w5 ⟨rfl, hb⟩; have HL5 := Lib.hid (HL4.out.below hb); clear hb) | (go_at_call 7; (with_reducible refine (HSV.out _ _ HL5.out).mono ?_); rintro e w6 ⟨rfl, h⟩; have HL6 := Lib.hid h; clear h))
          go_ret
          exact ⟨rfl, HL6.out.bel⟩
        case pos =>
          obtain ⟨r1, r2, r3⟩ := HK3.out hv hm
          rw [hm] at HPK
          try dsimp only at r1 r2 r3
          subst r1
          generalize check PT0 id q = ck2 at HC2 r2 r3
          obtain ⟨V2, E2, S2, A2, B2, C2, N2⟩ := ck2
          dsimp only [rpV] at HC2 r2 r3
          subst r2
          clear hm hv
          rcases r3 with ⟨rfl, r3⟩ | ⟨rfl, r3⟩
          · injection r3 with r31 r32 r33 r34 r35 r36
            subst r31 r32 r33 r34 r35 r36
            have g8 := fun W => eq38i E2 S2 A2 B2 C2 N2 W
            go_wp2_with (first | (go_at_call 7; (with_reducible refine (HSV.out _ _ HL.out).mono ?_); rintro e w2 ⟨rfl, h⟩; have HL1 := Lib.hid h; clear h) | (go_at_call 8; (with_reducible refine (HCK.out _ _ HL1.out).mono ?_); rintro e w3 ⟨rfl, h⟩; have HL3 := Lib.hid (h.box #[.int .i64 E, .string Sx, .int .i64 A1, .int .i64 B1, .int .i64 C1, .int .i64 N1] 27); clear h; obtain ⟨y0, y1, y2, y3, y4, y5, _⟩ := row6 (HL3.out.held (p := (w.heap.size, _)) (List.Mem.tail _ (List.Mem.head _))); obtain ⟨z0, z1, z2, z3, z4, z5, _⟩ := row6 (HL3.out.held (p := (w3.heap.size, _)) (List.Mem.head _))) | (go_at_call 9; (with_reducible refine (HDN.out _ _ HL3.out).mono ?_); rintro e w4 ⟨rfl, h⟩; have HL4 := Lib.hid h; clear h; obtain ⟨u0, u1, u2, u3, u4, u5, _⟩ := row6 (HL4.out.held (p := (w3.heap.size, _)) (List.Mem.head _)); obtain ⟨v0, v1, v2, v3, v4, v5, _⟩ := row6 (HL4.out.held (p := (w.heap.size, _)) (List.Mem.tail _ (List.Mem.head _)))) | (go_at_call 10; (with_reducible refine (HPK.out _).mono ?_); rintro e w5 ⟨rfl, hb⟩; have HL5 := Lib.hid (HL4.out.below hb); clear hb) | (go_at_call 8; (with_reducible refine (HC2.out _ _ HL5.out).mono ?_); rintro e w6 ⟨rfl, h⟩; have HL6 := Lib.hid (h.box #[.int .i64 E2, .string S2, .int .i64 A2, .int .i64 B2, .int .i64 C2, .int .i64 N2] 27); clear h; obtain ⟨x0, x1, x2, x3, x4, x5, _⟩ := row6 (HL6.out.held (p := (w6.heap.size, _)) (List.Mem.head _)); obtain ⟨s0, s1, s2, s3, s4, s5, _⟩ := row6 (HL6.out.held (p := (w3.heap.size, _)) (List.Mem.tail _ (List.Mem.head _))); obtain ⟨t0, t1, t2, t3, t4, t5, _⟩ := row6 (HL6.out.held (p := (w.heap.size, _)) (List.Mem.tail _ (List.Mem.tail _ (List.Mem.head _))))))
            go_ret
            exact ⟨rfl, HL6.out.bel⟩
          · injection r3 with r31 r32 r33 r34 r35 r36
            have r31 := r31.symm
            have r32 := r32.symm
            have r33 := r33.symm
            have r34 := r34.symm
            have r35 := r35.symm
            have r36 := r36.symm
            subst r31 r32 r33 r34 r35 r36
            have g8 := fun W => eq38i E Sx A1 B1 C1 N1 W
            go_wp2_with (first | (go_at_call 7; (with_reducible refine (HSV.out _ _ HL.out).mono ?_); rintro e w2 ⟨rfl, h⟩; have HL1 := Lib.hid h; clear h) | (go_at_call 8; (with_reducible refine (HCK.out _ _ HL1.out).mono ?_); rintro e w3 ⟨rfl, h⟩; have HL3 := Lib.hid (h.box #[.int .i64 E, .string Sx, .int .i64 A1, .int .i64 B1, .int .i64 C1, .int .i64 N1] 27); clear h; obtain ⟨y0, y1, y2, y3, y4, y5, _⟩ := row6 (HL3.out.held (p := (w.heap.size, _)) (List.Mem.tail _ (List.Mem.head _))); obtain ⟨z0, z1, z2, z3, z4, z5, _⟩ := row6 (HL3.out.held (p := (w3.heap.size, _)) (List.Mem.head _))) | (go_at_call 9; (with_reducible refine (HDN.out _ _ HL3.out).mono ?_); rintro e w4 ⟨rfl, h⟩; have HL4 := Lib.hid h; clear h; obtain ⟨u0, u1, u2, u3, u4, u5, _⟩ := row6 (HL4.out.held (p := (w3.heap.size, _)) (List.Mem.head _)); obtain ⟨v0, v1, v2, v3, v4, v5, _⟩ := row6 (HL4.out.held (p := (w.heap.size, _)) (List.Mem.tail _ (List.Mem.head _)))) | (go_at_call 10; (with_reducible refine (HPK.out _).mono ?_); rintro e w5 ⟨rfl, hb⟩; have HL5 := Lib.hid (HL4.out.below hb); clear hb) | (go_at_call 8; (with_reducible refine (HC2.out _ _ HL5.out).mono ?_); rintro e w6 ⟨rfl, h⟩; have HL6 := Lib.hid (h.box #[.int .i64 E, .string Sx, .int .i64 A1, .int .i64 B1, .int .i64 C1, .int .i64 N1] 27); clear h; obtain ⟨x0, x1, x2, x3, x4, x5, _⟩ := row6 (HL6.out.held (p := (w6.heap.size, _)) (List.Mem.head _)); obtain ⟨s0, s1, s2, s3, s4, s5, _⟩ := row6 (HL6.out.held (p := (w3.heap.size, _)) (List.Mem.tail _ (List.Mem.head _))); obtain ⟨t0, t1, t2, t3, t4, t5, _⟩ := row6 (HL6.out.held (p := (w.heap.size, _)) (List.Mem.tail _ (List.Mem.tail _ (List.Mem.head _))))))
            go_ret
            exact ⟨rfl, HL6.out.bel⟩
    case pos =>
      obtain ⟨hlt, h200⟩ := hgo
      have g1 : decide ((j : Int) < (N : Int)) = true := by simp; omega
      have g2 : decide (j < N) = true := by simp; omega
      have g3 : decide ((j : Int) < 200) = true := by simp; omega
      have g4 : decide (j < 200) = true := by simp; omega
      have HLT := Lib.hid hlt
      have i1 : (j : Int) < (N : Int) := by omega
      obtain ⟨x, hx⟩ : ∃ x, L0[j]? = some x := ⟨_, List.getElem?_eq_getElem (by have := HN.out; omega)⟩
      obtain ⟨ba, off, hA0, hcells⟩ := act_at HA.out hx
      obtain ⟨hxr, hxe⟩ := HX.out x (List.mem_of_getElem? hx)
      have HPL : Hid (∀ X, LvE w X b T [(w.heap.size, .cells #[.int .i64 pe, .string ps, .int .i64 pa, .int .i64 pb, .int .i64 pc, .int .i64 pn] 27 (0, 0))] → Calls Try.prog 6 #[.pointer (some ⟨b, 0, none⟩), actV x] X fun e Y => e = .returned (.tuple #[]) ∧ LvE w Y b (play T x) [(w.heap.size, .cells #[.int .i64 pe, .string ps, .int .i64 pa, .int .i64 pb, .int .i64 pc, .int .i64 pn] 27 (0, 0))]) := Lib.hid fun X h => play_lv h x hxr hxe
      obtain ⟨p0, p1, p2, p3, p4, p5, p6, p7, p8, p9⟩ := hcells _ HL.out.bel
      clear hcells hx hxr hxe
      rw [hA0]
      generalize play T x = PT at *
      unfold actV at HPL
      go_wp2_with (go_at_call 6; (with_reducible refine (HPL.out _ HL.out).mono ?_); rintro e w2 ⟨rfl, h⟩; have HL2 := Lib.hid h; clear h)
      go_roundw
      case rel => exact ⟨j + 1, PT, by go_num, Nat.succ_le_of_lt HLT.out, HL2.out⟩
      case measure => exact meas_lt HLT.out
end Go.Proofs.Ytphclpjekpdifaa
