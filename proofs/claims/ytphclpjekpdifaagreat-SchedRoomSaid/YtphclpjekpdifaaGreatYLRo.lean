import Derived.Test.YtphclpjekpdifaaGreatYRo
namespace Go.Proofs.YtphclpjekpdifaaGreat
set_option maxRecDepth 20000
open Go.RowKit
open PS (Tx putM dropM setM findM Nod Ten Jb kOf St Cm Rp byName row)
open Go.Proofs.YtphclpjekpdifaaGreat.Nm (str)
open Go.Proofs.YtphclpjekpdifaaGreat.Vc (RetBelow fitB I64)
set_option linter.unusedVariables false
set_option maxHeartbeats 64000000 in
theorem law_room (L0 : List Cm) (A : Option Addr) (N c0 : Nat) (w : World) (hA : Rws DC w w.heap.size A L0) (hN : L0.length = N) (hX : ∀ c ∈ L0, CmX c) : Calls Tryz.prog 3 #[.slice A N c0] w (RetBelow (.bool true) w) := by
  have HA := Lib.hid hA
  have HN := Lib.hid hN
  have HX := Lib.hid hX
  have HB := Lib.hid (Below.refl w.heap.size w)
  have HAW := Lib.hid (awake_any w)
  have HNW : Hid (∀ X, Below w.heap.size w X → Calls Tryz.prog 12 #[] X fun e Y => ∃ b, e = .returned (.pointer (some ⟨b, 0, none⟩)) ∧ LvE w Y b PS.s0 []) := Lib.hid fun X h => new_lv h [] (fun p hp => by cases hp)
  clear hA hX hN
  go_enter Tryz.func3, Tryz.ntmps3
  go_wp2_with (first | (go_at_call 11; (with_reducible refine HAW.out.mono ?_); rintro e w0 ⟨rfl, hb⟩; have HB0 := Lib.hid hb; clear hb) | (go_at_call 12; (with_reducible refine (HNW.out _ HB0.out).mono ?_); rintro e w1 ⟨b, rfl, h⟩; have HL0 := Lib.hid h; clear h))
  go_loopw [4, 5, 6, 7, 8, 9, 10, 11, 12, 13, 14, 15, 16, 17] (fun iV _ _ _ _ _ _ _ _ _ _ _ _ _ wr => ∃ (j : Nat) (S : St), iV = .int .i64 (j : Int) ∧ j ≤ N ∧ LvE w wr b S []) (fun iV _ _ _ _ _ _ _ _ _ _ _ _ _ _ => N - (intOf iV).toNat)
  case atStart => exact ⟨0, _, rfl, Nat.zero_le _, HL0.out⟩
  case round =>
    obtain ⟨j, S, rfl, hj, hi⟩ := hrel
    have HI := Lib.hid hi
    clear hi
    by_cases hgo : j < N ∧ j < 300
    case neg =>
      have hgo' : j < N → ¬ j < 300 := fun a b => hgo ⟨a, b⟩
      clear hgo
      rcases Nat.lt_or_ge j N with hlt | hlt
      · have h2 := hgo' hlt
        have g1 : decide ((j : Int) < (N : Int)) = true := by simp; omega
        have g2 : decide (j < N) = true := by simp; omega
        have g3 : decide ((j : Int) < 300) = false := by simp; omega
        have g4 : decide (j < 300) = false := by simp; omega
        clear hgo' hlt h2
        go_wp2_with fail
        go_ret
        exact ⟨rfl, HI.out.bel⟩
      · have g1 : decide ((j : Int) < (N : Int)) = false := by simp; omega
        have g2 : decide (j < N) = false := by simp; omega
        clear hgo' hlt
        go_wp2_with fail
        go_ret
        exact ⟨rfl, HI.out.bel⟩
    case pos =>
      obtain ⟨hlt, h300⟩ := hgo
      have g1 : decide ((j : Int) < (N : Int)) = true := by simp; omega
      have g2 : decide (j < N) = true := by simp; omega
      have g3 : decide ((j : Int) < 300) = true := by simp; omega
      have g4 : decide (j < 300) = true := by simp; omega
      have HLT := Lib.hid hlt
      have i1 : (j : Int) < (N : Int) := by omega
      obtain ⟨c, hc⟩ : ∃ c, L0[j]? = some c := ⟨_, List.getElem?_eq_getElem (by have := HN.out; omega)⟩
      obtain ⟨ba, off, hA0, hcells⟩ := cm_at HA.out hc
      have hx := HX.out c (List.mem_of_getElem? hc)
      have HDO : Hid (∀ X, LvE w X b S [] → Calls Tryz.prog 13 #[.pointer (some ⟨b, 0, none⟩), .agg #[.int .i64 c.o, .string (str c.s), .string (str c.t), .int .i64 c.a, .int .i64 c.b, .int .i64 c.c, .int .i64 c.n]] X fun e Y => e = .returned (.agg #[.int .i64 (PS.doC S c).2.e, .string (str (PS.doC S c).2.s), .int .i64 (PS.doC S c).2.a, .int .i64 (PS.doC S c).2.b, .int .i64 (PS.doC S c).2.c, .int .i64 (PS.doC S c).2.n]) ∧ LvE w Y b (PS.doC S c).1 []) := Lib.hid fun X h => do_lv h c hx.ok hx.i
      obtain ⟨p0, p1, p2, p3, p4, p5, p6⟩ := hcells _ HI.out.bel
      clear hcells hc hx
      generalize PS.doC S c = dr at HDO ⊢
      obtain ⟨S2, er, rs, ra, rb, rc, rn⟩ := dr
      dsimp only at HDO
      obtain ⟨co, cs, ct, ca, cb, cc, cn⟩ := c
      dsimp only at *
      rw [hA0]
      go_wp2_with (go_at_call 13; (with_reducible refine (HDO.out _ HI.out).mono ?_); rintro e w3 ⟨rfl, h⟩; have HL3 := Lib.hid h; clear h p0 p1 p2 p3 p4 p5 p6)
      clear HI
      rotate_left
      · exact ⟨⟨j + 1, S2, by go_num, Nat.succ_le_of_lt HLT.out, HL3.out⟩, by have := HLT.out; simp [intOf]; omega⟩
      all_goals
        have HIv := Lib.hid HL3.out.inv
        have HTN : Hid (cntK Nod.s Jb.on (byName S2.N) (byName S2.J) (byName S2.N).length = (byName S2.J).length) := Lib.hid (by unfold cntK; rw [List.take_length]; exact room_on HIv.out)
        have HTT : Hid (cntK Ten.s Jb.t (byName S2.T) (byName S2.J) (byName S2.T).length = (byName S2.J).length) := Lib.hid (by unfold cntK; rw [List.take_length]; exact room_of HIv.out)
        have HJ128 : Hid ((byName S2.J).length ≤ 128) := Lib.hid (Nat.le_trans (byName_len _) HIv.out.lJ)
        have HN32 : Hid ((byName S2.N).length ≤ 32) := Lib.hid (Nat.le_trans (byName_len _) HIv.out.lN)
        have HT32 : Hid ((byName S2.T).length ≤ 32) := Lib.hid (Nat.le_trans (byName_len _) HIv.out.lT)
        have HFN : Hid (∀ n ∈ byName S2.N, fitB n.x n.y n.z n.a n.b n.c = true) := Lib.hid fun n hn => by
          obtain ⟨k, hk⟩ := byName_mem hn
          have q := HIv.out.n _ _ hk
          exact fit_iff.2 ⟨q.fx, q.fy, q.fz⟩
        have HFT : Hid (∀ n ∈ byName S2.T, fitB n.x n.y n.z n.a n.b n.c = true) := Lib.hid fun n hn => by
          obtain ⟨k, hk⟩ := byName_mem hn
          have q := HIv.out.t _ _ hk
          exact fit_iff.2 ⟨q.fx, q.fy, q.fz⟩
        have HJH := Lib.hid fun (X : World) (G : List (Nat × Obj)) (h : LvE w X b S2 G) => jobs_held h
        have HNH := Lib.hid fun (X : World) (G : List (Nat × Obj)) (h : LvE w X b S2 G) => nodes_held h
        have HTH := Lib.hid fun (X : World) (G : List (Nat × Obj)) (h : LvE w X b S2 G) => tenants_held h
        obtain ⟨nJ, hnJ⟩ : ∃ nJ, (byName S2.J).length = nJ := ⟨_, rfl⟩
        obtain ⟨nN, hnN⟩ : ∃ nN, (byName S2.N).length = nN := ⟨_, rfl⟩
        obtain ⟨nT, hnT⟩ : ∃ nT, (byName S2.T).length = nT := ⟨_, rfl⟩
        rw [hnJ] at HTN HTT HJ128 HJH
        rw [hnN] at HTN HN32 HNH
        rw [hnT] at HTT HT32 HTH
        have HNJ := Lib.hid hnJ
        have HNN := Lib.hid hnN
        have HNT := Lib.hid hnT
        have l1 : decide ((nJ : Int) > 128) = false := by have := HJ128.out; simp; omega
        have l2 : decide ((nN : Int) > 32) = false := by have := HN32.out; simp; omega
        have l3 : decide ((nT : Int) > 32) = false := by have := HT32.out; simp; omega
        have l4 : decide ((128 : Int) < (nJ : Int)) = false := by have := HJ128.out; simp; omega
        have l5 : decide ((32 : Int) < (nN : Int)) = false := by have := HN32.out; simp; omega
        have l6 : decide ((32 : Int) < (nT : Int)) = false := by have := HT32.out; simp; omega
        clear hnJ hnN hnT
        go_wp2_with (first
          | (go_at_call 14; (with_reducible refine (HJH.out _ _ HL3.out).mono ?_); rintro e w4 ⟨AJ, cJ, KJ, rfl, h, hr⟩; have HL4 := Lib.hid h; have HRJ := Lib.hid hr; clear h hr)
          | (go_at_call 15; (with_reducible refine (HNH.out _ _ HL4.out).mono ?_); rintro e w5 ⟨AN, cN, KN, rfl, h, hr⟩; have HL5' := Lib.hid h; have HRN := Lib.hid hr; clear h hr)
          | (go_at_call 16; (with_reducible refine (HTH.out _ _ HL5'.out).mono ?_); rintro e w6 ⟨AT, cT, KT, rfl, h, hr⟩; have HL6' := Lib.hid h; have HRT := Lib.hid hr; clear h hr))
        obtain ⟨G, hG⟩ : ∃ G, KT ++ (KN ++ (KJ ++ [])) = G := ⟨_, rfl⟩
        have HL5 : Hid (LvE w w6 b S2 G) := Lib.hid (by rw [← hG]; exact HL6'.out)
        have HCJ : Hid (∀ Z GB, LvE w Z b S2 GB → (∀ p ∈ G, p ∈ GB) → ∀ (i : Nat) (x : Jb), (byName S2.J)[i]? = some x → ∃ g, AJ = some ⟨g, 0, none⟩ ∧ JCells Z g i x) := Lib.hid fun Z GB h hs i x hx => jcells h (fun p hp => hs p (by rw [← hG]; simp [hp])) HRJ.out hx
        have HCN : Hid (∀ Z GB, LvE w Z b S2 GB → (∀ p ∈ G, p ∈ GB) → ∀ (i : Nat) (x : Nod), (byName S2.N)[i]? = some x → ∃ g, AN = some ⟨g, 0, none⟩ ∧ NCells Z g i x) := Lib.hid fun Z GB h hs i x hx => ncells h (fun p hp => hs p (by rw [← hG]; simp [hp])) HRN.out hx
        have HCT : Hid (∀ Z GB, LvE w Z b S2 GB → (∀ p ∈ G, p ∈ GB) → ∀ (i : Nat) (x : Ten), (byName S2.T)[i]? = some x → ∃ g, AT = some ⟨g, 0, none⟩ ∧ TCells Z g i x) := Lib.hid fun Z GB h hs i x hx => tcells h (fun p hp => hs p (by rw [← hG]; simp [hp])) HRT.out hx
        have HSUN : Hid (∀ X, LvE w X b S2 G → ∀ n ∈ byName S2.N, Calls Tryz.prog 17 #[.slice AJ nJ cJ, .string (str n.s), .string ⟨#[]⟩] X fun e Y => e = .returned (.tuple #[.agg #[.int .i64 n.x, .int .i64 n.y, .int .i64 n.z], .bool true]) ∧ LvE w Y b S2 G) := Lib.hid fun X h n hn => by
          have := sum_on (c := cJ) h (fun p hp => by rw [← hG]; simp [hp]) HRJ.out hn
          rwa [HNJ.out] at this
        have HSUT : Hid (∀ X, LvE w X b S2 G → ∀ n ∈ byName S2.T, Calls Tryz.prog 17 #[.slice AJ nJ cJ, .string ⟨#[]⟩, .string (str n.s)] X fun e Y => e = .returned (.tuple #[.agg #[.int .i64 n.x, .int .i64 n.y, .int .i64 n.z], .bool true]) ∧ LvE w Y b S2 G) := Lib.hid fun X h n hn => by
          have := sum_of (c := cJ) h (fun p hp => by rw [← hG]; simp [hp]) HRJ.out hn
          rwa [HNJ.out] at this
        clear hG HL6' HL4 HL5' HRJ HRN HRT
        generalize hLJ : byName S2.J = LJ at *
        generalize hLN : byName S2.N = LN at *
        generalize hLT : byName S2.T = LT at *
        clear hLJ hLN hLT
        go_loopw [8, 10, 11, 12, 13, 68] (fun onV _ _ _ _ iV wr => ∃ (k q : Nat), iV = .int .i64 (k : Int) ∧ k ≤ nN ∧ onV = .int .i64 (q : Int) ∧ q = cntK Nod.s Jb.on LN LJ k ∧ LvE w wr b S2 G) (fun _ _ _ _ _ iV _ => nN - (intOf iV).toNat)
        case atStart => exact ⟨0, 0, rfl, Nat.zero_le _, rfl, rfl, HL5.out⟩
        case round =>
          obtain ⟨k, q, rfl, hk, rfl, hq, hi⟩ := hrel
          have HN0 := Lib.hid hi
          have HQK := Lib.hid hq
          clear hi hq
          by_cases hkn : k < nN
          case neg =>
            obtain rfl : k = nN := by omega
            obtain rfl : nJ = q := by rw [HQK.out, ← HTN.out]
            have g1 : decide ((k : Int) < (k : Int)) = false := by simp
            have g2 : decide (k < k) = false := by simp
            clear hk hkn HQK
            go_wp2_with fail
            go_loopw [9, 14, 15, 16, 17, 124] (fun onV _ _ _ _ iV wr => ∃ (k q : Nat), iV = .int .i64 (k : Int) ∧ k ≤ nT ∧ onV = .int .i64 (q : Int) ∧ q = cntK Ten.s Jb.t LT LJ k ∧ LvE w wr b S2 G) (fun _ _ _ _ _ iV _ => nT - (intOf iV).toNat)
            case atStart => exact ⟨0, 0, rfl, Nat.zero_le _, rfl, rfl, HN0.out⟩
            case round =>
              obtain ⟨k, q, rfl, hk, rfl, hq, hi⟩ := hrel
              have HT0 := Lib.hid hi
              have HQK := Lib.hid hq
              clear hi hq
              by_cases hkn : k < nT
              case neg =>
                obtain rfl : k = nT := by omega
                obtain rfl : nJ = q := by rw [HQK.out, ← HTT.out]
                have g1 : decide ((k : Int) < (k : Int)) = false := by simp
                have g2 : decide (k < k) = false := by simp
                clear hk hkn HQK
                have g5 : ((nJ : Int) == (nJ : Int)) = true := by simp
                have g6 : ((nJ : Int) != (nJ : Int)) = false := by simp
                go_wp2_with fail
                go_roundw
                case rel => exact ⟨j + 1, S2, by go_num, Nat.succ_le_of_lt HLT.out, HT0.out.less (fun p hp => by cases hp)⟩
                case measure => exact meas_lt HLT.out
              case pos =>
                have HLTK := Lib.hid hkn
                obtain ⟨n, hn⟩ : ∃ n, LT[k]? = some n := ⟨_, List.getElem?_eq_getElem (by have := HNT.out; omega)⟩
                have HNX := Lib.hid hn
                have HCS := Lib.hid (cntK_succ Ten.s Jb.t LT LJ hn)
                have HC4 := Lib.hid (show q ≤ 4096 by rw [HQK.out]; exact cntK_le _ _ _ _ _ (by have := HNT.out; have := HT32.out; omega) (by have := HNJ.out; have := HJ128.out; omega))
                obtain ⟨gN, hgN, n0, n1, n2, n3, n4, n5, n6⟩ := HCT.out _ _ HT0.out (fun p hp => hp) k n hn
                have g1 : decide ((k : Int) < (nT : Int)) = true := by simp; omega
                have g2 : decide (k < nT) = true := by simp; omega
                have hk32 : k < 32 := Nat.lt_of_lt_of_le hkn HT32.out
                have HSN := Lib.hid fun (X : World) (h : LvE w X b S2 G) => HSUT.out X h n (List.mem_of_getElem? hn)
                have hfit : fitB n.x n.y n.z n.a n.b n.c = true := HFT.out n (List.mem_of_getElem? hn)
                have e23 : ∀ W : World, (Op.equalIn 10000 28 (.agg #[.int .i64 n.x, .int .i64 n.y, .int .i64 n.z]) (.agg #[.int .i64 n.x, .int .i64 n.y, .int .i64 n.z])).run Tryz.prog W = .ok true W := fun W => by
                  have := Vc.eq23 n.x n.y n.z n.x n.y n.z W
                  rwa [show Vc.eqV n.x n.y n.z n.x n.y n.z = true from by simp [Vc.eqV]] at this
                subst hgN
                clear hk hkn hn
                rw [HQK.out] at *
                generalize hcO : cntK Ten.s Jb.t LT LJ k = cO at *
                go_wp2_with (go_at_call 17; (with_reducible refine (HSN.out _ HT0.out).mono ?_); rintro e wS ⟨rfl, h⟩; have HL6 := Lib.hid (h.box #[.int .i64 n.x, .int .i64 n.y, .int .i64 n.z] 28); clear h n0 n1 n2 n3 n4 n5 n6; obtain ⟨v0, v1, v2, _⟩ := row3f (HL6.out.held (p := (wS.heap.size, _)) (List.Mem.head _)); obtain ⟨gN', hgN', n0, n1, n2, n3, n4, n5, n6⟩ := HCT.out _ _ HL6.out (fun p hp => List.mem_cons_of_mem _ hp) k n HNX.out; have e1 : gN = gN' := (by injection hgN'.symm.trans rfl with e; injection e with e; exact e.symm); subst e1)
                obtain ⟨WA, hWA⟩ : ∃ WA, wS.alloc (.cells #[.int .i64 n.x, .int .i64 n.y, .int .i64 n.z] 28) = WA := ⟨_, rfl⟩
                rw [hWA] at HL6 v0 v1 v2 n0 n1 n2 n3 n4 n5 n6 ⊢
                clear hWA
                go_still_tail 18, (by kernel_rfl)
                change wpList _ _ _ _ _ WA.drew
                go_wp2_with (go_at_call 18; (with_reducible refine (Vc.refFits_any _ _ _ _ _ _ _).mono ?_); rintro e wF ⟨rfl, hb⟩; have HL7 := Lib.hid (HL6.out.below ((Below.refl _ _).drew.trans hb)); clear hb v0 v1 v2 n0 n1 n2 n3 n4 n5 n6; rw [hfit])
                obtain ⟨GB, hGB⟩ : ∃ GB, GB = (wS.heap.size, Obj.cells #[Value.int .i64 n.x, .int .i64 n.y, .int .i64 n.z] 28 (0, 0)) :: G := ⟨_, rfl⟩
                rw [← hGB] at HL7
                have HGB : Hid (∀ p ∈ G, p ∈ GB) := Lib.hid fun p hp => by rw [hGB]; exact List.mem_cons_of_mem _ hp
                clear hGB
                go_loopw [9, 17, 160] (fun onV _ iV wr => ∃ (m q : Nat), iV = .int .i64 (m : Int) ∧ m ≤ nJ ∧ onV = .int .i64 (q : Int) ∧ q = cO + (LJ.take m).countP (fun j => j.t == n.s) ∧ LvE w wr b S2 GB) (fun _ _ iV _ => nJ - (intOf iV).toNat)
                case atStart => exact ⟨0, cO, rfl, Nat.zero_le _, rfl, by simp, HL7.out⟩
                case round =>
                  obtain ⟨m, q, rfl, hm, rfl, hq, hi⟩ := hrel
                  have HM := Lib.hid hi
                  have HQ := Lib.hid hq
                  clear hi hq
                  by_cases hmj : m < nJ
                  case neg =>
                    obtain rfl : m = nJ := by omega
                    have g1 : decide ((m : Int) < (m : Int)) = false := by simp
                    have g2 : decide (m < m) = false := by simp
                    have HQ2 : Hid (q = cntK Ten.s Jb.t LT LJ (k + 1)) := Lib.hid (by rw [HQ.out, HCS.out, ← HNJ.out, List.take_length])
                    clear hm hmj
                    go_wp2_with fail
                    go_roundw
                    case rel => exact ⟨k + 1, q, by go_num, Nat.succ_le_of_lt HLTK.out, rfl, HQ2.out, HM.out.less HGB.out⟩
                    case measure => exact meas_lt HLTK.out
                  case pos =>
                    have HLTM := Lib.hid hmj
                    obtain ⟨x, hx⟩ : ∃ x, LJ[m]? = some x := ⟨_, List.getElem?_eq_getElem (by have := HNJ.out; omega)⟩
                    have HCP := Lib.hid (countP_step (fun j : Jb => j.t == n.s) hx)
                    obtain ⟨gJ, hgJ, _, j1, _, _, _, j5, _⟩ := HCJ.out _ _ HM.out HGB.out m x hx
                    obtain ⟨gJ', hgJ', _, k1, _, _, _, k5, _⟩ := HCJ.out _ _ (HM.out.below (Below.refl _ _).drew) HGB.out m x hx
                    have e2 : gJ = gJ' := by have e := hgJ.symm.trans hgJ'; injection e with e; injection e with e
                    subst e2
                    obtain ⟨gN', hgN', n0, _⟩ := HCT.out _ _ HM.out HGB.out k n HNX.out
                    obtain ⟨gN'', hgN'', l0, _⟩ := HCT.out _ _ (HM.out.below (Below.refl _ _).drew) HGB.out k n HNX.out
                    have e1 : gN = gN' := by injection hgN'.symm.trans rfl with e; injection e with e; exact e.symm
                    have e3 : gN = gN'' := by injection hgN''.symm.trans rfl with e; injection e with e; exact e.symm
                    subst e1 e3
                    have g1 : decide ((m : Int) < (nJ : Int)) = true := by simp; omega
                    have g2 : decide (m < nJ) = true := by simp; omega
                    have hm128 : m < 128 := Nat.lt_of_lt_of_le hmj HJ128.out
                    have hq5 : q < 5000 := by
                      have h1 := HQ.out
                      have h2 := HC4.out
                      have h3 := List.countP_le_length (p := fun j : Jb => j.t == n.s) (l := LJ.take m)
                      rw [List.length_take] at h3
                      omega
                    have HRM : Hid (∀ nq, LvE w (wr.drewN nq) b S2 GB) := Lib.hid fun nq => HM.out.below (below_drewN (Below.refl _ _) nq)
                    subst hgJ
                    have i1 : (m : Int) < (nJ : Int) := by omega
                    have i2 : (k : Int) < (nT : Int) := by have := HLTK.out; omega
                    have i3 : k < nT := HLTK.out
                    clear hx hm
                    by_cases he : x.t = n.s
                    · have e5 : (str x.t == str n.s) = true := by rw [str_beq]; simpa using he
                      have e6 : ((str x.t).toList == (str n.s).toList) = true := by rw [str_tl]; simpa using he
                      have HQ2 : Hid (q + 1 = cO + (LJ.take (m + 1)).countP (fun j => j.t == n.s)) := Lib.hid (by rw [HCP.out, if_pos (by simpa using he)]; have := HQ.out; omega)
                      clear he HCP
                      generalize str x.t = xf at *
                      go_wp2_with fail
                      go_quiet (fail)
                      go_wp2_with fail
                      go_roundw
                      case rel => exact ⟨m + 1, q + 1, by go_num, Nat.succ_le_of_lt HLTM.out, by go_num, HQ2.out, HRM.out _⟩
                      case measure => exact meas_lt HLTM.out
                    · have e5 : (str x.t == str n.s) = false := by rw [str_beq]; simpa using he
                      have e6 : ((str x.t).toList == (str n.s).toList) = false := by rw [str_tl]; simpa using he
                      have HQ2 : Hid (q = cO + (LJ.take (m + 1)).countP (fun j => j.t == n.s)) := Lib.hid (by rw [HCP.out, if_neg (by simpa using he)]; have := HQ.out; omega)
                      clear he HCP
                      generalize str x.t = xf at *
                      go_wp2_with fail
                      go_quiet (fail)
                      go_wp2_with fail
                      go_roundw
                      case rel => exact ⟨m + 1, q, by go_num, Nat.succ_le_of_lt HLTM.out, rfl, HQ2.out, HRM.out _⟩
                      case measure => exact meas_lt HLTM.out
          case pos =>
            have HLTK := Lib.hid hkn
            obtain ⟨n, hn⟩ : ∃ n, LN[k]? = some n := ⟨_, List.getElem?_eq_getElem (by have := HNN.out; omega)⟩
            have HNX := Lib.hid hn
            have HCS := Lib.hid (cntK_succ Nod.s Jb.on LN LJ hn)
            have HC4 := Lib.hid (show q ≤ 4096 by rw [HQK.out]; exact cntK_le _ _ _ _ _ (by have := HNN.out; have := HN32.out; omega) (by have := HNJ.out; have := HJ128.out; omega))
            obtain ⟨gN, hgN, n0, n1, n2, n3, n4, n5, n6⟩ := HCN.out _ _ HN0.out (fun p hp => hp) k n hn
            have g1 : decide ((k : Int) < (nN : Int)) = true := by simp; omega
            have g2 : decide (k < nN) = true := by simp; omega
            have hk32 : k < 32 := Nat.lt_of_lt_of_le hkn HN32.out
            have HSN := Lib.hid fun (X : World) (h : LvE w X b S2 G) => HSUN.out X h n (List.mem_of_getElem? hn)
            have hfit : fitB n.x n.y n.z n.a n.b n.c = true := HFN.out n (List.mem_of_getElem? hn)
            have e23 : ∀ W : World, (Op.equalIn 10000 28 (.agg #[.int .i64 n.x, .int .i64 n.y, .int .i64 n.z]) (.agg #[.int .i64 n.x, .int .i64 n.y, .int .i64 n.z])).run Tryz.prog W = .ok true W := fun W => by
              have := Vc.eq23 n.x n.y n.z n.x n.y n.z W
              rwa [show Vc.eqV n.x n.y n.z n.x n.y n.z = true from by simp [Vc.eqV]] at this
            subst hgN
            clear hk hkn hn
            rw [HQK.out] at *
            generalize hcO : cntK Nod.s Jb.on LN LJ k = cO at *
            go_wp2_with (go_at_call 17; (with_reducible refine (HSN.out _ HN0.out).mono ?_); rintro e wS ⟨rfl, h⟩; have HL6 := Lib.hid (h.box #[.int .i64 n.x, .int .i64 n.y, .int .i64 n.z] 28); clear h n0 n1 n2 n3 n4 n5 n6; obtain ⟨v0, v1, v2, _⟩ := row3f (HL6.out.held (p := (wS.heap.size, _)) (List.Mem.head _)); obtain ⟨gN', hgN', n0, n1, n2, n3, n4, n5, n6⟩ := HCN.out _ _ HL6.out (fun p hp => List.mem_cons_of_mem _ hp) k n HNX.out; have e1 : gN = gN' := (by injection hgN'.symm.trans rfl with e; injection e with e; exact e.symm); subst e1)
            obtain ⟨WA, hWA⟩ : ∃ WA, wS.alloc (.cells #[.int .i64 n.x, .int .i64 n.y, .int .i64 n.z] 28) = WA := ⟨_, rfl⟩
            rw [hWA] at HL6 v0 v1 v2 n0 n1 n2 n3 n4 n5 n6 ⊢
            clear hWA
            go_still_tail 18, (by kernel_rfl)
            change wpList _ _ _ _ _ WA.drew
            go_wp2_with (go_at_call 18; (with_reducible refine (Vc.refFits_any _ _ _ _ _ _ _).mono ?_); rintro e wF ⟨rfl, hb⟩; have HL7 := Lib.hid (HL6.out.below ((Below.refl _ _).drew.trans hb)); clear hb v0 v1 v2 n0 n1 n2 n3 n4 n5 n6; rw [hfit])
            obtain ⟨GB, hGB⟩ : ∃ GB, GB = (wS.heap.size, Obj.cells #[Value.int .i64 n.x, .int .i64 n.y, .int .i64 n.z] 28 (0, 0)) :: G := ⟨_, rfl⟩
            rw [← hGB] at HL7
            have HGB : Hid (∀ p ∈ G, p ∈ GB) := Lib.hid fun p hp => by rw [hGB]; exact List.mem_cons_of_mem _ hp
            clear hGB
            go_loopw [8, 13, 104] (fun onV _ iV wr => ∃ (m q : Nat), iV = .int .i64 (m : Int) ∧ m ≤ nJ ∧ onV = .int .i64 (q : Int) ∧ q = cO + (LJ.take m).countP (fun j => j.on == n.s) ∧ LvE w wr b S2 GB) (fun _ _ iV _ => nJ - (intOf iV).toNat)
            case atStart => exact ⟨0, cO, rfl, Nat.zero_le _, rfl, by simp, HL7.out⟩
            case round =>
              obtain ⟨m, q, rfl, hm, rfl, hq, hi⟩ := hrel
              have HM := Lib.hid hi
              have HQ := Lib.hid hq
              clear hi hq
              by_cases hmj : m < nJ
              case neg =>
                obtain rfl : m = nJ := by omega
                have g1 : decide ((m : Int) < (m : Int)) = false := by simp
                have g2 : decide (m < m) = false := by simp
                have HQ2 : Hid (q = cntK Nod.s Jb.on LN LJ (k + 1)) := Lib.hid (by rw [HQ.out, HCS.out, ← HNJ.out, List.take_length])
                clear hm hmj
                go_wp2_with fail
                go_roundw
                case rel => exact ⟨k + 1, q, by go_num, Nat.succ_le_of_lt HLTK.out, rfl, HQ2.out, HM.out.less HGB.out⟩
                case measure => exact meas_lt HLTK.out
              case pos =>
                have HLTM := Lib.hid hmj
                obtain ⟨x, hx⟩ : ∃ x, LJ[m]? = some x := ⟨_, List.getElem?_eq_getElem (by have := HNJ.out; omega)⟩
                have HCP := Lib.hid (countP_step (fun j : Jb => j.on == n.s) hx)
                obtain ⟨gJ, hgJ, _, j1, _, _, _, j5, _⟩ := HCJ.out _ _ HM.out HGB.out m x hx
                obtain ⟨gJ', hgJ', _, k1, _, _, _, k5, _⟩ := HCJ.out _ _ (HM.out.below (Below.refl _ _).drew) HGB.out m x hx
                have e2 : gJ = gJ' := by have e := hgJ.symm.trans hgJ'; injection e with e; injection e with e
                subst e2
                obtain ⟨gN', hgN', n0, _⟩ := HCN.out _ _ HM.out HGB.out k n HNX.out
                obtain ⟨gN'', hgN'', l0, _⟩ := HCN.out _ _ (HM.out.below (Below.refl _ _).drew) HGB.out k n HNX.out
                have e1 : gN = gN' := by injection hgN'.symm.trans rfl with e; injection e with e; exact e.symm
                have e3 : gN = gN'' := by injection hgN''.symm.trans rfl with e; injection e with e; exact e.symm
                subst e1 e3
                have g1 : decide ((m : Int) < (nJ : Int)) = true := by simp; omega
                have g2 : decide (m < nJ) = true := by simp; omega
                have hm128 : m < 128 := Nat.lt_of_lt_of_le hmj HJ128.out
                have hq5 : q < 5000 := by
                  have h1 := HQ.out
                  have h2 := HC4.out
                  have h3 := List.countP_le_length (p := fun j : Jb => j.on == n.s) (l := LJ.take m)
                  rw [List.length_take] at h3
                  omega
                have HRM : Hid (∀ nq, LvE w (wr.drewN nq) b S2 GB) := Lib.hid fun nq => HM.out.below (below_drewN (Below.refl _ _) nq)
                subst hgJ
                have i1 : (m : Int) < (nJ : Int) := by omega
                have i2 : (k : Int) < (nN : Int) := by have := HLTK.out; omega
                have i3 : k < nN := HLTK.out
                clear hx hm
                by_cases he : x.on = n.s
                · have e5 : (str x.on == str n.s) = true := by rw [str_beq]; simpa using he
                  have e6 : ((str x.on).toList == (str n.s).toList) = true := by rw [str_tl]; simpa using he
                  have HQ2 : Hid (q + 1 = cO + (LJ.take (m + 1)).countP (fun j => j.on == n.s)) := Lib.hid (by rw [HCP.out, if_pos (by simpa using he)]; have := HQ.out; omega)
                  clear he HCP
                  generalize str x.on = xf at *
                  go_wp2_with fail
                  go_quiet (fail)
                  go_wp2_with fail
                  go_roundw
                  case rel => exact ⟨m + 1, q + 1, by go_num, Nat.succ_le_of_lt HLTM.out, by go_num, HQ2.out, HRM.out _⟩
                  case measure => exact meas_lt HLTM.out
                · have e5 : (str x.on == str n.s) = false := by rw [str_beq]; simpa using he
                  have e6 : ((str x.on).toList == (str n.s).toList) = false := by rw [str_tl]; simpa using he
                  have HQ2 : Hid (q = cO + (LJ.take (m + 1)).countP (fun j => j.on == n.s)) := Lib.hid (by rw [HCP.out, if_neg (by simpa using he)]; have := HQ.out; omega)
                  clear he HCP
                  generalize str x.on = xf at *
                  go_wp2_with fail
                  go_quiet (fail)
                  go_wp2_with fail
                  go_roundw
                  case rel => exact ⟨m + 1, q, by go_num, Nat.succ_le_of_lt HLTM.out, rfl, HQ2.out, HRM.out _⟩
                  case measure => exact meas_lt HLTM.out
end Go.Proofs.YtphclpjekpdifaaGreat
