import Derived.Test.YtphclpjekpdifaaGreatYQ
import Derived.Test.YtphclpjekpdifaaGreatYY
import Derived.Test.YtphclpjekpdifaaGreatYF
import Derived.Deep.RegionWith
namespace Go.Proofs.YtphclpjekpdifaaGreat
set_option maxRecDepth 20000
open Go.RowKit
open PS (Tx putM dropM setM findM Nod Ten Jb kOf St)
open Go.Proofs.YtphclpjekpdifaaGreat.Nm (str)
open Go.Proofs.YtphclpjekpdifaaGreat.Vc (RetBelow fitB I64)
set_option linter.unusedVariables false
open PS (Cm row byName)
open Wi.Pl (It)
theorem len10 {x : List Value} (h : x.length = 10) : ∃ z0 z1 z2 z3 z4 z5 z6 z7 z8 z9, x = [z0, z1, z2, z3, z4, z5, z6, z7, z8, z9] := by
  obtain ⟨z0, x0, e0, h0⟩ := cons_of h
  obtain ⟨z1, x1, e1, h1⟩ := cons_of h0
  obtain ⟨z2, x2, e2, h2⟩ := cons_of h1
  obtain ⟨z3, x3, e3, h3⟩ := cons_of h2
  obtain ⟨z4, x4, e4, h4⟩ := cons_of h3
  obtain ⟨z5, x5, e5, h5⟩ := cons_of h4
  obtain ⟨z6, x6, e6, h6⟩ := cons_of h5
  obtain ⟨z7, x7, e7, h7⟩ := cons_of h6
  obtain ⟨z8, x8, e8, h8⟩ := cons_of h7
  obtain ⟨z9, x9, e9, h9⟩ := cons_of h8
  exact ⟨z0, z1, z2, z3, z4, z5, z6, z7, z8, z9, by rw [e0, e1, e2, e3, e4, e5, e6, e7, e8, e9, nil_of h9]⟩
theorem len11 {x : List Value} (h : x.length = 11) : ∃ z0 z1 z2 z3 z4 z5 z6 z7 z8 z9 z10, x = [z0, z1, z2, z3, z4, z5, z6, z7, z8, z9, z10] := by
  obtain ⟨z0, x0, e0, h0⟩ := cons_of h
  obtain ⟨z1, x1, e1, h1⟩ := cons_of h0
  obtain ⟨z2, x2, e2, h2⟩ := cons_of h1
  obtain ⟨z3, x3, e3, h3⟩ := cons_of h2
  obtain ⟨z4, x4, e4, h4⟩ := cons_of h3
  obtain ⟨z5, x5, e5, h5⟩ := cons_of h4
  obtain ⟨z6, x6, e6, h6⟩ := cons_of h5
  obtain ⟨z7, x7, e7, h7⟩ := cons_of h6
  obtain ⟨z8, x8, e8, h8⟩ := cons_of h7
  obtain ⟨z9, x9, e9, h9⟩ := cons_of h8
  obtain ⟨z10, x10, e10, h10⟩ := cons_of h9
  exact ⟨z0, z1, z2, z3, z4, z5, z6, z7, z8, z9, z10, by rw [e0, e1, e2, e3, e4, e5, e6, e7, e8, e9, e10, nil_of h10]⟩
theorem len19 {x : List Value} (h : x.length = 19) : ∃ z0 z1 z2 z3 z4 z5 z6 z7 z8 z9 z10 z11 z12 z13 z14 z15 z16 z17 z18, x = [z0, z1, z2, z3, z4, z5, z6, z7, z8, z9, z10, z11, z12, z13, z14, z15, z16, z17, z18] := by
  obtain ⟨z0, x0, e0, h0⟩ := cons_of h
  obtain ⟨z1, x1, e1, h1⟩ := cons_of h0
  obtain ⟨z2, x2, e2, h2⟩ := cons_of h1
  obtain ⟨z3, x3, e3, h3⟩ := cons_of h2
  obtain ⟨z4, x4, e4, h4⟩ := cons_of h3
  obtain ⟨z5, x5, e5, h5⟩ := cons_of h4
  obtain ⟨z6, x6, e6, h6⟩ := cons_of h5
  obtain ⟨z7, x7, e7, h7⟩ := cons_of h6
  obtain ⟨z8, x8, e8, h8⟩ := cons_of h7
  obtain ⟨z9, x9, e9, h9⟩ := cons_of h8
  obtain ⟨z10, x10, e10, h10⟩ := cons_of h9
  obtain ⟨z11, x11, e11, h11⟩ := cons_of h10
  obtain ⟨z12, x12, e12, h12⟩ := cons_of h11
  obtain ⟨z13, x13, e13, h13⟩ := cons_of h12
  obtain ⟨z14, x14, e14, h14⟩ := cons_of h13
  obtain ⟨z15, x15, e15, h15⟩ := cons_of h14
  obtain ⟨z16, x16, e16, h16⟩ := cons_of h15
  obtain ⟨z17, x17, e17, h17⟩ := cons_of h16
  obtain ⟨z18, x18, e18, h18⟩ := cons_of h17
  exact ⟨z0, z1, z2, z3, z4, z5, z6, z7, z8, z9, z10, z11, z12, z13, z14, z15, z16, z17, z18, by rw [e0, e1, e2, e3, e4, e5, e6, e7, e8, e9, e10, e11, e12, e13, e14, e15, e16, e17, e18, nil_of h18]⟩
set_option maxHeartbeats 16000000 in
theorem save_core (b : Nat) (LN : List Nd) (LT : List Ten) (LJ : List Jb) (TSn TSt TSj : List It) (TX : ByteArray) (w : World)
    (HLn : Hid (LN.length ≤ 1000)) (HLt : Hid (LT.length ≤ 1000)) (HLj : Hid (LJ.length ≤ 1000))
    (HTSn : Hid (TSn = LN.map PS.nodI)) (HTSt : Hid (TSt = LT.map PS.tenI)) (HTSj : Hid (TSj = LJ.map PS.jobI))
    (HEn : Hid (∀ n ∈ LN, n.s.length ≤ 1000 ∧ Wi.InR n.a ∧ Wi.InR n.b ∧ Wi.InR n.c)) (HEt : Hid (∀ n ∈ LT, n.s.length ≤ 1000 ∧ Wi.InR n.a ∧ Wi.InR n.b ∧ Wi.InR n.c))
    (HEj : Hid (∀ n ∈ LJ, (n.s.length ≤ 1000 ∧ n.t.length ≤ 1000 ∧ n.on.length ≤ 1000) ∧ (Wi.InR n.p ∧ Wi.InR n.q ∧ Wi.InR n.r) ∧ Wi.InR n.st))
    (HCN : Hid (∀ X, Below w.heap.size w X → Calls Tryz.prog 15 #[.pointer (some ⟨b, 0, none⟩)] X fun e w' => ∃ v, e = .returned v ∧ Own DR w' X.heap.size v LN ∧ Below X.heap.size X w'))
    (HCT : Hid (∀ X, Below w.heap.size w X → Calls Tryz.prog 16 #[.pointer (some ⟨b, 0, none⟩)] X fun e w' => ∃ v, e = .returned v ∧ Own DTR w' X.heap.size v LT ∧ Below X.heap.size X w'))
    (HCJ : Hid (∀ X, Below w.heap.size w X → Calls Tryz.prog 14 #[.pointer (some ⟨b, 0, none⟩)] X fun e w' => ∃ v, e = .returned v ∧ Own DJ w' X.heap.size v LJ ∧ Below X.heap.size X w'))
    (HTX : Hid (Wi.txt (.mk 3 0 ⟨#[]⟩ [.mk 3 0 ⟨#[]⟩ TSn, .mk 3 0 ⟨#[]⟩ TSt, .mk 3 0 ⟨#[]⟩ TSj]) = TX)) :
    Calls Tryz.prog 20 #[.pointer (some ⟨b, 0, none⟩)] w (RetBelow (.string TX) w) := by
  have HLn0 := HLn
  have HLt0 := HLt
  have HLj0 := HLj
  have HW0 := Lib.hid (Below.refl w.heap.size w)
  go_enter Tryz.func20, Tryz.ntmps20
  go_wp2_with (first | (go_at_call 15; (with_reducible refine (HCN.out _ HW0.out).mono ?_); rintro e wa ⟨v1, rfl, hown, hb⟩; have HRn := Lib.hid hown; have HBn := Lib.hid hb; obtain ⟨A1, c1, hv1, hr1, _, _, _⟩ := hown.form; subst hv1; clear hown hb hr1))
  obtain ⟨Nn, hN⟩ : ∃ N, N = LN.length := ⟨_, rfl⟩
  have HNn := Lib.hid hN
  rw [← hN]
  have hNbn : Nn ≤ 1000 := by rw [hN]; exact HLn.out
  clear hN
  go_loopw [3, 7, 8, 18] (fun accV _ _ iV wr => ∃ (v : Value) (j : Nat), v = accV ∧ j ≤ Nn ∧ iV = .int .i64 j ∧ Wi.ItRow wa.heap.size wr v (TSn.take j) ∧ Below wa.heap.size wa wr) (fun _ _ _ iV _ => Nn - (intOf iV).toNat)
  case atStart => exact ⟨_, 0, rfl, Nat.zero_le _, rfl, Wi.ItRow.nil _ _, Below.refl _ _⟩
  case round =>
    obtain ⟨vv, j, rfl, hj, rfl, hir, hbw⟩ := hrel
    have HBWn := Lib.hid hbw
    have HOn := Lib.hid hir
    clear hir hbw
    by_cases hlt : j < Nn
    · obtain ⟨n, hn⟩ : ∃ n, LN[j]? = some n := ⟨_, List.getElem?_eq_getElem (by have := HNn.out; omega)⟩
      have HLT := Lib.hid hlt
      obtain ⟨g, cp, hsl, hg1, hg2, hcs⟩ := HRn.out.at_ hn
      injection hsl with hA hLL hcp
      clear hLL
      subst hcp
      subst hA
      have HCS : ∀ q u, (nodeC n)[q]? = some u → wr.cell? ⟨g, j * 8 + q, none⟩ = some u := fun q u hu => cellB (hcs q u hu) HBWn.out hg2
      have e0 : wr.cell? ⟨g, j * 8, none⟩ = some (.string (str n.s)) := HCS 0 _ rfl
      have e1 := HCS 1 _ rfl
      have e2 := HCS 2 _ rfl
      have e3 := HCS 3 _ rfl
      have e4 := HCS 4 _ rfl
      have e5 := HCS 5 _ rfl
      have e6 := HCS 6 _ rfl
      have e7 := HCS 7 _ rfl
      clear HCS hcs
      have HST : Hid (TSn.take (j + 1) = TSn.take j ++ [PS.nodI n]) := Lib.hid (by rw [List.take_add_one, HTSn.out, List.getElem?_map, hn]; rfl)
      have HFL : Hid ((TSn.take j).length ≤ 1000) := Lib.hid (by rw [List.length_take, HTSn.out, List.length_map]; have := HLn.out; omega)
      generalize TSn.take j = TJ at *
      have HSZ := Lib.hid HBWn.out.size
      obtain ⟨hsz, hi3⟩ := HEn.out n (List.mem_of_getElem? hn)
      have HIT : Hid (PS.nodI n = .mk 3 0 ⟨#[]⟩ [Wi.sIt (str n.s), Wi.vIt n.a n.b n.c, Wi.nIt (if n.d = true then 1 else 0)]) := Lib.hid rfl
      generalize PS.nodI n = IT at *
      obtain ⟨ns, na, nb, nc, nx, ny, nz, nd⟩ := n
      dsimp only at *
      have HSS : Hid ((str ns).size ≤ maxLen) := Lib.hid (by rw [Nm.str_size]; simp only [maxLen]; omega)
      generalize str ns = SS at *
      have HI3 : Hid (Wi.InR na ∧ Wi.InR nb ∧ Wi.InR nc) := Lib.hid hi3
      clear hsz hi3 hn
      have HBX0 := Lib.hid (fun X (hX : Below (wr.alloc (.cells #[.string SS, .int .i64 na, .int .i64 nb, .int .i64 nc, .int .i64 nx, .int .i64 ny, .int .i64 nz, .bool nd] 43)).heap.size (wr.alloc (.cells #[.string SS, .int .i64 na, .int .i64 nb, .int .i64 nc, .int .i64 nx, .int .i64 ny, .int .i64 nz, .bool nd] 43)) X) => (hX.block wr.heap.size (by simp)).trans (heap_alloc_new wr (.cells #[.string SS, .int .i64 na, .int .i64 nb, .int .i64 nc, .int .i64 nx, .int .i64 ny, .int .i64 nz, .bool nd] 43)))
      cases nd with
      | true =>
        have HDN : Hid (Wi.InR 1) := Lib.hid ⟨by omega, by omega⟩
        rw [if_pos rfl] at HIT
        go_wp2_with (first | (go_at_call 52; (with_reducible refine (Wi.cnum_any 0 _).mono ?_); rintro e w2 ⟨rfl, hb2⟩; have H2 := Lib.hid hb2; have HB2 := Lib.hid (((Below.refl wr.heap.size wr).alloc (Nat.le_refl _) (.cells #[.string SS, .int .i64 na, .int .i64 nb, .int .i64 nc, .int .i64 nx, .int .i64 ny, .int .i64 nz, .bool true] 43)).trans (hb2.mono (by simp))); have HX2 := Lib.hid ((Below.heap_alloc w2 (.cells #[.int .i64 1, .int .i64 0, .string ⟨#[]⟩, .slice none 0 0] 111) wr.heap.size (by have := hb2.size; simp at this; omega)).trans (HBX0.out w2 hb2)); have HI2 := Lib.hid (heap_alloc_new w2 (.cells #[.int .i64 1, .int .i64 0, .string ⟨#[]⟩, .slice none 0 0] 111)); obtain ⟨_, _, _, _, _, _, _, x7, _⟩ := rowc8 HX2.out; clear hb2) | (go_at_call 52; (with_reducible refine (Wi.cnum_any 1 _).mono ?_); rintro e w3 ⟨rfl, hb3⟩; have H3 := Lib.hid hb3; have HIX3 := Lib.hid ((hb3.block w2.heap.size (by simp)).trans HI2.out); have HX3 := Lib.hid ((hb3.block wr.heap.size (Array.getElem?_eq_some_iff.1 HX2.out).1).trans HX2.out); have HB3 := Lib.hid ((HB2.out.alloc HB2.out.size (.cells #[.int .i64 1, .int .i64 0, .string ⟨#[]⟩, .slice none 0 0] 111)).trans (hb3.mono (by have := HB2.out.size; simp; omega))); obtain ⟨t0, t1, t2, t3, k0, k1, k2, k3⟩ := Wi.row4 HIX3.out; clear hb3 x7))
        refine (show Code.wp Tryz.prog _ _ _ (Wi.w4 w3 w2.heap.size (.int .i64 1) (.int .i64 1) (.string ⟨#[]⟩) (.slice none 0 0)) from ?_)
        have hlt2 : wr.heap.size < w2.heap.size := by have := H2.out.size; simp at this; omega
        have HIW := Lib.hid (Wi.w4_row w3 w2.heap.size (.int .i64 1) (.int .i64 1) (.string ⟨#[]⟩) (.slice none 0 0) _ _ _ _ _ HIX3.out)
        have HBX := Lib.hid ((Wi.w4_far w3 w2.heap.size (.int .i64 1) (.int .i64 1) (.string ⟨#[]⟩) (.slice none 0 0) wr.heap.size (by omega)).trans HX3.out)
        have HWB := Lib.hid (HB3.out.trans (Wi.w4_below w3 wr.heap.size w2.heap.size (.int .i64 1) (.int .i64 1) (.string ⟨#[]⟩) (.slice none 0 0) (by omega)))
        generalize Wi.w4 w3 w2.heap.size (.int .i64 1) (.int .i64 1) (.string ⟨#[]⟩) (.slice none 0 0) = W at *
        clear t0 t1 t2 t3 k0 k1 k2 k3
        have HBL := Lib.hid (Array.getElem?_eq_some_iff.1 HBX.out).1
        have HIL := Lib.hid (Array.getElem?_eq_some_iff.1 HIW.out).1
        refine wp_region_mono 11 [26, 27, 28, 29, 30, 31, 32, 33, 34, 35, 36] (fun i v w => match i with | 0 => v = vv | 1 => v = .pointer (some ⟨wr.heap.size, 0, none⟩) | 2 => v = .string SS | 3 => v = .agg #[.int .i64 2, .int .i64 0, .string SS, .slice none 0 0] | 4 => v = .pointer (some ⟨wr.heap.size, 1, none⟩) | 5 => v = .agg #[.int .i64 na, .int .i64 nb, .int .i64 nc] | 6 => Wi.IsIt w (Wi.Ran W.heap.size w) (Wi.vIt na nb nc) v | 7 => v = .agg #[.int .i64 1, .int .i64 1, .string ⟨#[]⟩, .slice none 0 0] | 8 => ∃ g, v = .slice (some ⟨g, 0, none⟩) 3 3 ∧ Wi.AreIts w (Wi.Ran W.heap.size w) [Wi.sIt SS, Wi.vIt na nb nc, Wi.nIt 1] (some ⟨g, 0, none⟩) 0 | 9 => ∃ g, v = .agg #[.int .i64 3, .int .i64 0, .string ⟨#[]⟩, .slice (some ⟨g, 0, none⟩) 3 3] ∧ Wi.AreIts w (Wi.Ran W.heap.size w) [Wi.sIt SS, Wi.vIt na nb nc, Wi.nIt 1] (some ⟨g, 0, none⟩) 0 | 10 => ∃ g2 g, v = .slice (some ⟨g2, 0, none⟩) 1 1 ∧ W.heap.size ≤ g2 ∧ w.heap[g2]? = some (.cells #[.int .i64 3, .int .i64 0, .string ⟨#[]⟩, .slice (some ⟨g, 0, none⟩) 3 3] 111 (0, 0)) ∧ Wi.AreIts w (Wi.Ran W.heap.size w) [Wi.sIt SS, Wi.vIt na nb nc, Wi.nIt 1] (some ⟨g, 0, none⟩) 0 | _ => True) (fun w => Below W.heap.size W w) [u26, u27, u28, u29, u30, u31, u32, u33, u34, u35, u36] (by kernel_rfl) (by kernel_rfl) (by kernel_rfl) rfl (Below.refl _ _).drew ?hzV ?hzS ?hzT
        case hzV =>
          intro i v w w' hC h hB
          exact match i, h with
          | 0, h => h
          | 1, h => h
          | 2, h => h
          | 3, h => h
          | 4, h => h
          | 5, h => h
          | 6, h => Wi.IsIt.far h hB
          | 7, h => h
          | 8, h => (let ⟨g, h1, h2⟩ := h; ⟨g, h1, Wi.AreIts.far h2 hB⟩)
          | 9, h => (let ⟨g, h1, h2⟩ := h; ⟨g, h1, Wi.AreIts.far h2 hB⟩)
          | 10, h => (let ⟨g2, g, h1, h2, h3, h4⟩ := h; ⟨g2, g, h1, h2, (hB.block _ (Array.getElem?_eq_some_iff.1 h3).1).trans h3, Wi.AreIts.far h4 hB⟩)
          | i + 11, h => trivial
        case hzS =>
          refine steps_cons (fun K' x hx w hC hd hK => ?_) ?_
          · obtain ⟨z0, z1, z2, z3, z4, z5, z6, z7, z8, z9, z10, rfl⟩ := len11 hx
            clear hd hx
            simp only [putAll, Act.put, List.setIfInBounds_toArray, List.set_cons_zero, List.set_cons_succ] at hK ⊢
            go_simp
            exact hK _ _ rfl hC (Below.refl _ _)
          refine steps_cons (fun K' x hx w hC hd hK => ?_) ?_
          · obtain ⟨z0, z1, z2, z3, z4, z5, z6, z7, z8, z9, z10, rfl⟩ := len11 hx
            clear hd hx
            simp only [putAll, Act.put, List.setIfInBounds_toArray, List.set_cons_zero, List.set_cons_succ] at hK ⊢
            go_simp
            exact hK _ _ rfl hC (Below.refl _ _)
          refine steps_cons (fun K' x hx w hC hd hK => ?_) ?_
          · obtain ⟨z0, z1, z2, z3, z4, z5, z6, z7, z8, z9, z10, rfl⟩ := len11 hx
            obtain rfl : z1 = _ := hd 1 (by kernel_rfl)
            clear hd hx
            simp only [putAll, Act.put, List.setIfInBounds_toArray, List.set_cons_zero, List.set_cons_succ] at hK ⊢
            obtain ⟨y0, y1, y2, y3, y4, y5, y6, y7, _⟩ := rowc8 ((Below.block hC _ HBL.out).trans HBX.out)
            go_simp
            exact hK _ _ rfl hC (Below.refl _ _)
          refine steps_cons (fun K' x hx w hC hd hK => ?_) ?_
          · obtain ⟨z0, z1, z2, z3, z4, z5, z6, z7, z8, z9, z10, rfl⟩ := len11 hx
            obtain rfl : z2 = _ := hd 2 (by kernel_rfl)
            clear hd hx
            simp only [putAll, Act.put, List.setIfInBounds_toArray, List.set_cons_zero, List.set_cons_succ] at hK ⊢
            go_simp
            (go_at_call 54; (with_reducible refine (Wi.ctxt_any _ _).mono ?_); rintro e w1 ⟨rfl, hb⟩; exact hK _ _ rfl (Below.trans hC (hb.mono (Below.size hC))) hb)
          refine steps_cons (fun K' x hx w hC hd hK => ?_) ?_
          · obtain ⟨z0, z1, z2, z3, z4, z5, z6, z7, z8, z9, z10, rfl⟩ := len11 hx
            clear hd hx
            simp only [putAll, Act.put, List.setIfInBounds_toArray, List.set_cons_zero, List.set_cons_succ] at hK ⊢
            go_simp
            exact hK _ _ rfl hC (Below.refl _ _)
          refine steps_cons (fun K' x hx w hC hd hK => ?_) ?_
          · obtain ⟨z0, z1, z2, z3, z4, z5, z6, z7, z8, z9, z10, rfl⟩ := len11 hx
            obtain rfl : z4 = _ := hd 4 (by kernel_rfl)
            clear hd hx
            simp only [putAll, Act.put, List.setIfInBounds_toArray, List.set_cons_zero, List.set_cons_succ] at hK ⊢
            obtain ⟨y0, y1, y2, y3, y4, y5, y6, y7, _⟩ := rowc8 ((Below.block hC _ HBL.out).trans HBX.out)
            go_simp
            exact hK _ _ rfl hC (Below.refl _ _)
          refine steps_cons (fun K' x hx w hC hd hK => ?_) ?_
          · obtain ⟨z0, z1, z2, z3, z4, z5, z6, z7, z8, z9, z10, rfl⟩ := len11 hx
            obtain rfl : z5 = _ := hd 5 (by kernel_rfl)
            clear hd hx
            simp only [putAll, Act.put, List.setIfInBounds_toArray, List.set_cons_zero, List.set_cons_succ] at hK ⊢
            go_simp
            (go_at_call 55; (with_reducible refine (Wi.amounts_any _ _ _ _ HI3.out.1 HI3.out.2.1 HI3.out.2.2).mono ?_); rintro e w1 ⟨v, rfl, hb, hI⟩; exact hK _ _ (Wi.IsIt.mono (fun q hq => ⟨Nat.le_trans (Below.size hC) hq.1, hq.2⟩) _ hI) (Below.trans hC (hb.mono (Below.size hC))) hb)
          refine steps_cons (fun K' x hx w hC hd hK => ?_) ?_
          · obtain ⟨z0, z1, z2, z3, z4, z5, z6, z7, z8, z9, z10, rfl⟩ := len11 hx
            clear hd hx
            simp only [putAll, Act.put, List.setIfInBounds_toArray, List.set_cons_zero, List.set_cons_succ] at hK ⊢
            obtain ⟨y0, y1, y2, y3, _⟩ := Wi.row4 ((Below.block hC _ HIL.out).trans HIW.out)
            go_simp
            exact hK _ _ rfl hC (Below.refl _ _)
          refine steps_cons (fun K' x hx w hC hd hK => ?_) ?_
          · obtain ⟨z0, z1, z2, z3, z4, z5, z6, z7, z8, z9, z10, rfl⟩ := len11 hx
            obtain rfl : z3 = _ := hd 3 (by kernel_rfl)
            obtain hi6 := hd 6 (by kernel_rfl)
            obtain rfl : z7 = _ := hd 7 (by kernel_rfl)
            clear hd hx
            simp only [putAll, Act.put, List.setIfInBounds_toArray, List.set_cons_zero, List.set_cons_succ] at hK ⊢
            obtain ⟨A6, c6, rfl, hq0, hq1, hq2, hq3, hal6⟩ := (show Wi.IsIt _ _ (.mk 3 0 ⟨#[]⟩ _) _ from hi6)
            clear hq0 hq1 hq2 hq3
            go_simp
            refine hK _ _ ⟨w.heap.size, rfl, ?_⟩ (Below.alloc hC (Below.size hC) _) ((Below.refl _ w).alloc (Nat.le_refl _) _)
            exact Wi.are3 ⟨Below.size hC, by simp⟩ (heap_alloc_new w _) (Wi.isIt_sIt _ _ _ HSS.out) (⟨A6, c6, rfl, ⟨by omega, by omega⟩, ⟨by omega, by omega⟩, by simp [Wi.zero_size], by simp [maxLen], Wi.AreIts.far hal6 ((Below.refl _ w).alloc (Nat.le_refl _) _)⟩) (Wi.isIt_nIt _ _ _ HDN.out)
          refine steps_cons (fun K' x hx w hC hd hK => ?_) ?_
          · obtain ⟨z0, z1, z2, z3, z4, z5, z6, z7, z8, z9, z10, rfl⟩ := len11 hx
            obtain ⟨g, rfl, hal⟩ := hd 8 (by kernel_rfl)
            clear hd hx
            simp only [putAll, Act.put, List.setIfInBounds_toArray, List.set_cons_zero, List.set_cons_succ] at hK ⊢
            go_simp
            (go_at_call 53; (with_reducible refine (Wi.clist_any _ _ _ _).mono ?_); rintro e w1 ⟨rfl, hb⟩; exact hK _ _ ⟨g, rfl, Wi.AreIts.far hal hb⟩ (Below.trans hC (hb.mono (Below.size hC))) hb)
          refine steps_cons (fun K' x hx w hC hd hK => ?_) ?_
          · obtain ⟨z0, z1, z2, z3, z4, z5, z6, z7, z8, z9, z10, rfl⟩ := len11 hx
            obtain ⟨g, rfl, hal⟩ := hd 9 (by kernel_rfl)
            clear hd hx
            simp only [putAll, Act.put, List.setIfInBounds_toArray, List.set_cons_zero, List.set_cons_succ] at hK ⊢
            go_simp
            exact hK _ _ ⟨w.heap.size, g, rfl, Below.size hC, heap_alloc_new w _, Wi.AreIts.far hal ((Below.refl _ w).alloc (Nat.le_refl _) _)⟩ (Below.alloc hC (Below.size hC) _) ((Below.refl _ w).alloc (Nat.le_refl _) _)
          exact trivial
        case hzT =>
          intro x hx w hC hd
          obtain ⟨z0, z1, z2, z3, z4, z5, z6, z7, z8, z9, z10, rfl⟩ := len11 hx
          obtain ⟨g2, g, e10, hg2, hrow, hal⟩ := hd 10 (by omega)
          have hz0 : z0 = _ := hd 0 (by omega)
          replace hz0 := hz0.symm
          subst hz0
          change z10 = _ at e10
          subst e10
          clear hd hx
          simp only [putAll, Act.put, List.setIfInBounds_toArray, List.set_cons_zero, List.set_cons_succ]
          have hBW := HWB.out.trans (Below.mono hC HWB.out.size)
          obtain ⟨xs, ho, hI⟩ := HOn.out.below hBW
          obtain ⟨xs0, ho0, _⟩ := HOn.out
          have HOV := Lib.hid fun q hq => (Wi.own_lt ho0 q hq)
          obtain ⟨r0, r1, r2, r3, _⟩ := Wi.row4 hrow
          have HW := Lib.hid hBW
          have HII := Lib.hid hI
          have HOO := Lib.hid ho
          have HAL := Lib.hid hal
          have HG2 := Lib.hid hg2
          have HSW := Lib.hid HWB.out.size
          clear hBW hI ho hal hg2 ho0 hC hrow
          show wpList Tryz.prog _ _ (_ :: _ :: []) _ _
          go_wp2_with (at_builtin; (refine Wi.wp_app4 rfl (.tmp 26) (.tmp 36) rfl wa.heap.size vv TJ.length xs rfl HOO.out ⟨g2, 0, none⟩ 1 rfl (.int .i64 3) (.int .i64 0) (.string ⟨#[]⟩) (.slice (some ⟨g, 0, none⟩) 3 3) (by go_simp) (by go_simp) (by go_simp) (by go_simp) rfl rfl rfl rfl ?hln ?hbs ?_))
          case hln => have := HFL.out; omega
          case hbs => have := HW.out.size; have := HSZ.out; omega
          intro v2 w3 p1 p2 p3
          have A1 := Lib.hid (Wi.ItRow.snoc (x := .mk 3 0 ⟨#[]⟩ [Wi.sIt SS, Wi.vIt na nb nc, Wi.nIt 1]) HOO.out HII.out ⟨some ⟨g, 0, none⟩, 3, rfl, ⟨by omega, by omega⟩, ⟨by omega, by omega⟩, by simp [Wi.zero_size], by simp [maxLen], Wi.AreIts.mono (fun q hq => ⟨⟨Nat.le_trans HSZ.out (Nat.le_trans HSW.out hq.1), hq.2⟩, fun e => by have := (HOV.out q e).2; have := HSW.out; have := hq.1; omega⟩) _ HAL.out⟩ (by have := HW.out.size; have := HSZ.out; omega) p1 p2 p3)
          have B1 := Lib.hid ((HBWn.out.trans (HW.out.mono HSZ.out)).grown p2 (by have := HW.out.size; have := HSZ.out; omega) (fun q hq => (HOV.out q hq).1))
          clear p1 p2 p3 r0 r1 r2 r3 HOO HII HAL HOV HW
          go_wp2_with fail
          go_roundw
          case rel => exact ⟨v2, j + 1, rfl, Nat.succ_le_of_lt HLT.out, by go_num, by rw [HST.out, HIT.out]; exact A1.out, B1.out⟩
          case measure => exact meas_lt HLT.out
      | false =>
        have HDN : Hid (Wi.InR 0) := Lib.hid ⟨by omega, by omega⟩
        rw [if_neg (by decide)] at HIT
        go_wp2_with (first | (go_at_call 52; (with_reducible refine (Wi.cnum_any 0 _).mono ?_); rintro e w2 ⟨rfl, hb2⟩; have H2 := Lib.hid hb2; have HB2 := Lib.hid (((Below.refl wr.heap.size wr).alloc (Nat.le_refl _) (.cells #[.string SS, .int .i64 na, .int .i64 nb, .int .i64 nc, .int .i64 nx, .int .i64 ny, .int .i64 nz, .bool false] 43)).trans (hb2.mono (by simp))); have HX2 := Lib.hid ((Below.heap_alloc w2 (.cells #[.int .i64 1, .int .i64 0, .string ⟨#[]⟩, .slice none 0 0] 111) wr.heap.size (by have := hb2.size; simp at this; omega)).trans (HBX0.out w2 hb2)); have HI2 := Lib.hid (heap_alloc_new w2 (.cells #[.int .i64 1, .int .i64 0, .string ⟨#[]⟩, .slice none 0 0] 111)); obtain ⟨_, _, _, _, _, _, _, x7, _⟩ := rowc8 HX2.out; clear hb2))
        have HIW := HI2
        have HBX := HX2
        have HWB := Lib.hid (HB2.out.alloc HB2.out.size (.cells #[.int .i64 1, .int .i64 0, .string ⟨#[]⟩, .slice none 0 0] 111))
        generalize w2.alloc (.cells #[.int .i64 1, .int .i64 0, .string ⟨#[]⟩, .slice none 0 0] 111) = W at *
        clear x7
        have HBL := Lib.hid (Array.getElem?_eq_some_iff.1 HBX.out).1
        have HIL := Lib.hid (Array.getElem?_eq_some_iff.1 HIW.out).1
        refine wp_region_mono 11 [26, 27, 28, 29, 30, 31, 32, 33, 34, 35, 36] (fun i v w => match i with | 0 => v = vv | 1 => v = .pointer (some ⟨wr.heap.size, 0, none⟩) | 2 => v = .string SS | 3 => v = .agg #[.int .i64 2, .int .i64 0, .string SS, .slice none 0 0] | 4 => v = .pointer (some ⟨wr.heap.size, 1, none⟩) | 5 => v = .agg #[.int .i64 na, .int .i64 nb, .int .i64 nc] | 6 => Wi.IsIt w (Wi.Ran W.heap.size w) (Wi.vIt na nb nc) v | 7 => v = .agg #[.int .i64 1, .int .i64 0, .string ⟨#[]⟩, .slice none 0 0] | 8 => ∃ g, v = .slice (some ⟨g, 0, none⟩) 3 3 ∧ Wi.AreIts w (Wi.Ran W.heap.size w) [Wi.sIt SS, Wi.vIt na nb nc, Wi.nIt 0] (some ⟨g, 0, none⟩) 0 | 9 => ∃ g, v = .agg #[.int .i64 3, .int .i64 0, .string ⟨#[]⟩, .slice (some ⟨g, 0, none⟩) 3 3] ∧ Wi.AreIts w (Wi.Ran W.heap.size w) [Wi.sIt SS, Wi.vIt na nb nc, Wi.nIt 0] (some ⟨g, 0, none⟩) 0 | 10 => ∃ g2 g, v = .slice (some ⟨g2, 0, none⟩) 1 1 ∧ W.heap.size ≤ g2 ∧ w.heap[g2]? = some (.cells #[.int .i64 3, .int .i64 0, .string ⟨#[]⟩, .slice (some ⟨g, 0, none⟩) 3 3] 111 (0, 0)) ∧ Wi.AreIts w (Wi.Ran W.heap.size w) [Wi.sIt SS, Wi.vIt na nb nc, Wi.nIt 0] (some ⟨g, 0, none⟩) 0 | _ => True) (fun w => Below W.heap.size W w) [u26, u27, u28, u29, u30, u31, u32, u33, u34, u35, u36] (by kernel_rfl) (by kernel_rfl) (by kernel_rfl) rfl (Below.refl _ _).drew ?hzV ?hzS ?hzT
        case hzV =>
          intro i v w w' hC h hB
          exact match i, h with
          | 0, h => h
          | 1, h => h
          | 2, h => h
          | 3, h => h
          | 4, h => h
          | 5, h => h
          | 6, h => Wi.IsIt.far h hB
          | 7, h => h
          | 8, h => (let ⟨g, h1, h2⟩ := h; ⟨g, h1, Wi.AreIts.far h2 hB⟩)
          | 9, h => (let ⟨g, h1, h2⟩ := h; ⟨g, h1, Wi.AreIts.far h2 hB⟩)
          | 10, h => (let ⟨g2, g, h1, h2, h3, h4⟩ := h; ⟨g2, g, h1, h2, (hB.block _ (Array.getElem?_eq_some_iff.1 h3).1).trans h3, Wi.AreIts.far h4 hB⟩)
          | i + 11, h => trivial
        case hzS =>
          refine steps_cons (fun K' x hx w hC hd hK => ?_) ?_
          · obtain ⟨z0, z1, z2, z3, z4, z5, z6, z7, z8, z9, z10, rfl⟩ := len11 hx
            clear hd hx
            simp only [putAll, Act.put, List.setIfInBounds_toArray, List.set_cons_zero, List.set_cons_succ] at hK ⊢
            go_simp
            exact hK _ _ rfl hC (Below.refl _ _)
          refine steps_cons (fun K' x hx w hC hd hK => ?_) ?_
          · obtain ⟨z0, z1, z2, z3, z4, z5, z6, z7, z8, z9, z10, rfl⟩ := len11 hx
            clear hd hx
            simp only [putAll, Act.put, List.setIfInBounds_toArray, List.set_cons_zero, List.set_cons_succ] at hK ⊢
            go_simp
            exact hK _ _ rfl hC (Below.refl _ _)
          refine steps_cons (fun K' x hx w hC hd hK => ?_) ?_
          · obtain ⟨z0, z1, z2, z3, z4, z5, z6, z7, z8, z9, z10, rfl⟩ := len11 hx
            obtain rfl : z1 = _ := hd 1 (by kernel_rfl)
            clear hd hx
            simp only [putAll, Act.put, List.setIfInBounds_toArray, List.set_cons_zero, List.set_cons_succ] at hK ⊢
            obtain ⟨y0, y1, y2, y3, y4, y5, y6, y7, _⟩ := rowc8 ((Below.block hC _ HBL.out).trans HBX.out)
            go_simp
            exact hK _ _ rfl hC (Below.refl _ _)
          refine steps_cons (fun K' x hx w hC hd hK => ?_) ?_
          · obtain ⟨z0, z1, z2, z3, z4, z5, z6, z7, z8, z9, z10, rfl⟩ := len11 hx
            obtain rfl : z2 = _ := hd 2 (by kernel_rfl)
            clear hd hx
            simp only [putAll, Act.put, List.setIfInBounds_toArray, List.set_cons_zero, List.set_cons_succ] at hK ⊢
            go_simp
            (go_at_call 54; (with_reducible refine (Wi.ctxt_any _ _).mono ?_); rintro e w1 ⟨rfl, hb⟩; exact hK _ _ rfl (Below.trans hC (hb.mono (Below.size hC))) hb)
          refine steps_cons (fun K' x hx w hC hd hK => ?_) ?_
          · obtain ⟨z0, z1, z2, z3, z4, z5, z6, z7, z8, z9, z10, rfl⟩ := len11 hx
            clear hd hx
            simp only [putAll, Act.put, List.setIfInBounds_toArray, List.set_cons_zero, List.set_cons_succ] at hK ⊢
            go_simp
            exact hK _ _ rfl hC (Below.refl _ _)
          refine steps_cons (fun K' x hx w hC hd hK => ?_) ?_
          · obtain ⟨z0, z1, z2, z3, z4, z5, z6, z7, z8, z9, z10, rfl⟩ := len11 hx
            obtain rfl : z4 = _ := hd 4 (by kernel_rfl)
            clear hd hx
            simp only [putAll, Act.put, List.setIfInBounds_toArray, List.set_cons_zero, List.set_cons_succ] at hK ⊢
            obtain ⟨y0, y1, y2, y3, y4, y5, y6, y7, _⟩ := rowc8 ((Below.block hC _ HBL.out).trans HBX.out)
            go_simp
            exact hK _ _ rfl hC (Below.refl _ _)
          refine steps_cons (fun K' x hx w hC hd hK => ?_) ?_
          · obtain ⟨z0, z1, z2, z3, z4, z5, z6, z7, z8, z9, z10, rfl⟩ := len11 hx
            obtain rfl : z5 = _ := hd 5 (by kernel_rfl)
            clear hd hx
            simp only [putAll, Act.put, List.setIfInBounds_toArray, List.set_cons_zero, List.set_cons_succ] at hK ⊢
            go_simp
            (go_at_call 55; (with_reducible refine (Wi.amounts_any _ _ _ _ HI3.out.1 HI3.out.2.1 HI3.out.2.2).mono ?_); rintro e w1 ⟨v, rfl, hb, hI⟩; exact hK _ _ (Wi.IsIt.mono (fun q hq => ⟨Nat.le_trans (Below.size hC) hq.1, hq.2⟩) _ hI) (Below.trans hC (hb.mono (Below.size hC))) hb)
          refine steps_cons (fun K' x hx w hC hd hK => ?_) ?_
          · obtain ⟨z0, z1, z2, z3, z4, z5, z6, z7, z8, z9, z10, rfl⟩ := len11 hx
            clear hd hx
            simp only [putAll, Act.put, List.setIfInBounds_toArray, List.set_cons_zero, List.set_cons_succ] at hK ⊢
            obtain ⟨y0, y1, y2, y3, _⟩ := Wi.row4 ((Below.block hC _ HIL.out).trans HIW.out)
            go_simp
            exact hK _ _ rfl hC (Below.refl _ _)
          refine steps_cons (fun K' x hx w hC hd hK => ?_) ?_
          · obtain ⟨z0, z1, z2, z3, z4, z5, z6, z7, z8, z9, z10, rfl⟩ := len11 hx
            obtain rfl : z3 = _ := hd 3 (by kernel_rfl)
            obtain hi6 := hd 6 (by kernel_rfl)
            obtain rfl : z7 = _ := hd 7 (by kernel_rfl)
            clear hd hx
            simp only [putAll, Act.put, List.setIfInBounds_toArray, List.set_cons_zero, List.set_cons_succ] at hK ⊢
            obtain ⟨A6, c6, rfl, hq0, hq1, hq2, hq3, hal6⟩ := (show Wi.IsIt _ _ (.mk 3 0 ⟨#[]⟩ _) _ from hi6)
            clear hq0 hq1 hq2 hq3
            go_simp
            refine hK _ _ ⟨w.heap.size, rfl, ?_⟩ (Below.alloc hC (Below.size hC) _) ((Below.refl _ w).alloc (Nat.le_refl _) _)
            exact Wi.are3 ⟨Below.size hC, by simp⟩ (heap_alloc_new w _) (Wi.isIt_sIt _ _ _ HSS.out) (⟨A6, c6, rfl, ⟨by omega, by omega⟩, ⟨by omega, by omega⟩, by simp [Wi.zero_size], by simp [maxLen], Wi.AreIts.far hal6 ((Below.refl _ w).alloc (Nat.le_refl _) _)⟩) (Wi.isIt_nIt _ _ _ HDN.out)
          refine steps_cons (fun K' x hx w hC hd hK => ?_) ?_
          · obtain ⟨z0, z1, z2, z3, z4, z5, z6, z7, z8, z9, z10, rfl⟩ := len11 hx
            obtain ⟨g, rfl, hal⟩ := hd 8 (by kernel_rfl)
            clear hd hx
            simp only [putAll, Act.put, List.setIfInBounds_toArray, List.set_cons_zero, List.set_cons_succ] at hK ⊢
            go_simp
            (go_at_call 53; (with_reducible refine (Wi.clist_any _ _ _ _).mono ?_); rintro e w1 ⟨rfl, hb⟩; exact hK _ _ ⟨g, rfl, Wi.AreIts.far hal hb⟩ (Below.trans hC (hb.mono (Below.size hC))) hb)
          refine steps_cons (fun K' x hx w hC hd hK => ?_) ?_
          · obtain ⟨z0, z1, z2, z3, z4, z5, z6, z7, z8, z9, z10, rfl⟩ := len11 hx
            obtain ⟨g, rfl, hal⟩ := hd 9 (by kernel_rfl)
            clear hd hx
            simp only [putAll, Act.put, List.setIfInBounds_toArray, List.set_cons_zero, List.set_cons_succ] at hK ⊢
            go_simp
            exact hK _ _ ⟨w.heap.size, g, rfl, Below.size hC, heap_alloc_new w _, Wi.AreIts.far hal ((Below.refl _ w).alloc (Nat.le_refl _) _)⟩ (Below.alloc hC (Below.size hC) _) ((Below.refl _ w).alloc (Nat.le_refl _) _)
          exact trivial
        case hzT =>
          intro x hx w hC hd
          obtain ⟨z0, z1, z2, z3, z4, z5, z6, z7, z8, z9, z10, rfl⟩ := len11 hx
          obtain ⟨g2, g, e10, hg2, hrow, hal⟩ := hd 10 (by omega)
          have hz0 : z0 = _ := hd 0 (by omega)
          replace hz0 := hz0.symm
          subst hz0
          change z10 = _ at e10
          subst e10
          clear hd hx
          simp only [putAll, Act.put, List.setIfInBounds_toArray, List.set_cons_zero, List.set_cons_succ]
          have hBW := HWB.out.trans (Below.mono hC HWB.out.size)
          obtain ⟨xs, ho, hI⟩ := HOn.out.below hBW
          obtain ⟨xs0, ho0, _⟩ := HOn.out
          have HOV := Lib.hid fun q hq => (Wi.own_lt ho0 q hq)
          obtain ⟨r0, r1, r2, r3, _⟩ := Wi.row4 hrow
          have HW := Lib.hid hBW
          have HII := Lib.hid hI
          have HOO := Lib.hid ho
          have HAL := Lib.hid hal
          have HG2 := Lib.hid hg2
          have HSW := Lib.hid HWB.out.size
          clear hBW hI ho hal hg2 ho0 hC hrow
          show wpList Tryz.prog _ _ (_ :: _ :: []) _ _
          go_wp2_with (at_builtin; (refine Wi.wp_app4 rfl (.tmp 26) (.tmp 36) rfl wa.heap.size vv TJ.length xs rfl HOO.out ⟨g2, 0, none⟩ 1 rfl (.int .i64 3) (.int .i64 0) (.string ⟨#[]⟩) (.slice (some ⟨g, 0, none⟩) 3 3) (by go_simp) (by go_simp) (by go_simp) (by go_simp) rfl rfl rfl rfl ?hln ?hbs ?_))
          case hln => have := HFL.out; omega
          case hbs => have := HW.out.size; have := HSZ.out; omega
          intro v2 w3 p1 p2 p3
          have A1 := Lib.hid (Wi.ItRow.snoc (x := .mk 3 0 ⟨#[]⟩ [Wi.sIt SS, Wi.vIt na nb nc, Wi.nIt 0]) HOO.out HII.out ⟨some ⟨g, 0, none⟩, 3, rfl, ⟨by omega, by omega⟩, ⟨by omega, by omega⟩, by simp [Wi.zero_size], by simp [maxLen], Wi.AreIts.mono (fun q hq => ⟨⟨Nat.le_trans HSZ.out (Nat.le_trans HSW.out hq.1), hq.2⟩, fun e => by have := (HOV.out q e).2; have := HSW.out; have := hq.1; omega⟩) _ HAL.out⟩ (by have := HW.out.size; have := HSZ.out; omega) p1 p2 p3)
          have B1 := Lib.hid ((HBWn.out.trans (HW.out.mono HSZ.out)).grown p2 (by have := HW.out.size; have := HSZ.out; omega) (fun q hq => (HOV.out q hq).1))
          clear p1 p2 p3 r0 r1 r2 r3 HOO HII HAL HOV HW
          go_wp2_with fail
          go_roundw
          case rel => exact ⟨v2, j + 1, rfl, Nat.succ_le_of_lt HLT.out, by go_num, by rw [HST.out, HIT.out]; exact A1.out, B1.out⟩
          case measure => exact meas_lt HLT.out
    · have hln : TSn.length = Nn := by rw [HTSn.out, List.length_map]; exact HNn.out.symm
      have hjl : TSn.take j = TSn := List.take_of_length_le (by omega)
      rw [hjl] at HOn
      clear hjl hln
      obtain ⟨LA1, LC1, hvv, _⟩ := HOn.out.form
      subst hvv
      have HV1 := HOn
      have HW1 := Lib.hid (HW0.out.trans ((HBn.out.trans (HBWn.out.mono HBn.out.size)).mono HW0.out.size))
      have HU1 := Lib.hid (Nat.le_trans (Nat.le_trans HW0.out.size HBn.out.size) (Nat.le_refl _))
      go_wp2_with (first | (go_at_call 16; (with_reducible refine (HCT.out _ HW1.out).mono ?_); rintro e wb ⟨v1, rfl, hown, hb⟩; have HRt := Lib.hid hown; have HBt := Lib.hid hb; obtain ⟨A1, c1, hv1, hr1, _, _, _⟩ := hown.form; subst hv1; clear hown hb hr1))
      obtain ⟨Nt, hN⟩ : ∃ N, N = LT.length := ⟨_, rfl⟩
      have HNt := Lib.hid hN
      rw [← hN]
      have hNbt : Nt ≤ 1000 := by rw [hN]; exact HLt.out
      clear hN
      go_loopw [4, 10, 42] (fun accV _ iV wr => ∃ (v : Value) (j : Nat), v = accV ∧ j ≤ Nt ∧ iV = .int .i64 j ∧ Wi.ItRow wb.heap.size wr v (TSt.take j) ∧ Below wb.heap.size wb wr) (fun _ _ iV _ => Nt - (intOf iV).toNat)
      case atStart => exact ⟨_, 0, rfl, Nat.zero_le _, rfl, Wi.ItRow.nil _ _, Below.refl _ _⟩
      case round =>
        obtain ⟨vv, j, rfl, hj, rfl, hir, hbw⟩ := hrel
        have HBWt := Lib.hid hbw
        have HOt := Lib.hid hir
        clear hir hbw
        by_cases hlt : j < Nt
        · obtain ⟨n, hn⟩ : ∃ n, LT[j]? = some n := ⟨_, List.getElem?_eq_getElem (by have := HNt.out; omega)⟩
          have HLT := Lib.hid hlt
          obtain ⟨g, cp, hsl, hg1, hg2, hcs⟩ := HRt.out.at_ hn
          injection hsl with hA hLL hcp
          clear hLL
          subst hcp
          subst hA
          have HCS : ∀ q u, (tenR n)[q]? = some u → wr.cell? ⟨g, j * 7 + q, none⟩ = some u := fun q u hu => cellB (hcs q u hu) HBWt.out hg2
          have e0 : wr.cell? ⟨g, j * 7, none⟩ = some (.string (str n.s)) := HCS 0 _ rfl
          have e1 := HCS 1 _ rfl
          have e2 := HCS 2 _ rfl
          have e3 := HCS 3 _ rfl
          have e4 := HCS 4 _ rfl
          have e5 := HCS 5 _ rfl
          have e6 := HCS 6 _ rfl
          clear HCS hcs
          have HST : Hid (TSt.take (j + 1) = TSt.take j ++ [PS.tenI n]) := Lib.hid (by rw [List.take_add_one, HTSt.out, List.getElem?_map, hn]; rfl)
          have HFL : Hid ((TSt.take j).length ≤ 1000) := Lib.hid (by rw [List.length_take, HTSt.out, List.length_map]; have := HLt.out; omega)
          generalize TSt.take j = TJ at *
          have HSZ := Lib.hid HBWt.out.size
          obtain ⟨hsz, hi3⟩ := HEt.out n (List.mem_of_getElem? hn)
          have HIT : Hid (PS.tenI n = .mk 3 0 ⟨#[]⟩ [Wi.sIt (str n.s), Wi.vIt n.a n.b n.c]) := Lib.hid rfl
          generalize PS.tenI n = IT at *
          obtain ⟨ns, na, nb, nc, nx, ny, nz, nn⟩ := n
          dsimp only at *
          have HSS : Hid ((str ns).size ≤ maxLen) := Lib.hid (by rw [Nm.str_size]; simp only [maxLen]; omega)
          generalize str ns = SS at *
          have HI3 : Hid (Wi.InR na ∧ Wi.InR nb ∧ Wi.InR nc) := Lib.hid hi3
          clear hsz hi3 hn
          go_wp2_with fail
          have HBX := Lib.hid (heap_alloc_new wr (.cells #[.string SS, .int .i64 na, .int .i64 nb, .int .i64 nc, .int .i64 nx, .int .i64 ny, .int .i64 nz] 48))
          have HWB := Lib.hid ((Below.refl wr.heap.size wr).alloc (Nat.le_refl _) (.cells #[.string SS, .int .i64 na, .int .i64 nb, .int .i64 nc, .int .i64 nx, .int .i64 ny, .int .i64 nz] 48))
          generalize wr.alloc (.cells #[.string SS, .int .i64 na, .int .i64 nb, .int .i64 nc, .int .i64 nx, .int .i64 ny, .int .i64 nz] 48) = W at *
          have HBL := Lib.hid (Array.getElem?_eq_some_iff.1 HBX.out).1
          refine wp_region_mono 10 [46, 47, 48, 49, 50, 51, 52, 53, 54, 55] (fun i v w => match i with | 0 => v = vv | 1 => v = .pointer (some ⟨wr.heap.size, 0, none⟩) | 2 => v = .string SS | 3 => v = .agg #[.int .i64 2, .int .i64 0, .string SS, .slice none 0 0] | 4 => v = .pointer (some ⟨wr.heap.size, 1, none⟩) | 5 => v = .agg #[.int .i64 na, .int .i64 nb, .int .i64 nc] | 6 => Wi.IsIt w (Wi.Ran W.heap.size w) (Wi.vIt na nb nc) v | 7 => ∃ g, v = .slice (some ⟨g, 0, none⟩) 2 2 ∧ Wi.AreIts w (Wi.Ran W.heap.size w) [Wi.sIt SS, Wi.vIt na nb nc] (some ⟨g, 0, none⟩) 0 | 8 => ∃ g, v = .agg #[.int .i64 3, .int .i64 0, .string ⟨#[]⟩, .slice (some ⟨g, 0, none⟩) 2 2] ∧ Wi.AreIts w (Wi.Ran W.heap.size w) [Wi.sIt SS, Wi.vIt na nb nc] (some ⟨g, 0, none⟩) 0 | 9 => ∃ g2 g, v = .slice (some ⟨g2, 0, none⟩) 1 1 ∧ W.heap.size ≤ g2 ∧ w.heap[g2]? = some (.cells #[.int .i64 3, .int .i64 0, .string ⟨#[]⟩, .slice (some ⟨g, 0, none⟩) 2 2] 111 (0, 0)) ∧ Wi.AreIts w (Wi.Ran W.heap.size w) [Wi.sIt SS, Wi.vIt na nb nc] (some ⟨g, 0, none⟩) 0 | _ => True) (fun w => Below W.heap.size W w) [u46, u47, u48, u49, u50, u51, u52, u53, u54, u55] (by kernel_rfl) (by kernel_rfl) (by kernel_rfl) rfl (Below.refl _ _).drew ?hzV ?hzS ?hzT
          case hzV =>
            intro i v w w' hC h hB
            exact match i, h with
            | 0, h => h
            | 1, h => h
            | 2, h => h
            | 3, h => h
            | 4, h => h
            | 5, h => h
            | 6, h => Wi.IsIt.far h hB
            | 7, h => (let ⟨g, h1, h2⟩ := h; ⟨g, h1, Wi.AreIts.far h2 hB⟩)
            | 8, h => (let ⟨g, h1, h2⟩ := h; ⟨g, h1, Wi.AreIts.far h2 hB⟩)
            | 9, h => (let ⟨g2, g, h1, h2, h3, h4⟩ := h; ⟨g2, g, h1, h2, (hB.block _ (Array.getElem?_eq_some_iff.1 h3).1).trans h3, Wi.AreIts.far h4 hB⟩)
            | i + 10, h => trivial
          case hzS =>
            refine steps_cons (fun K' x hx w hC hd hK => ?_) ?_
            · obtain ⟨z0, z1, z2, z3, z4, z5, z6, z7, z8, z9, rfl⟩ := len10 hx
              clear hd hx
              simp only [putAll, Act.put, List.setIfInBounds_toArray, List.set_cons_zero, List.set_cons_succ] at hK ⊢
              go_simp
              exact hK _ _ rfl hC (Below.refl _ _)
            refine steps_cons (fun K' x hx w hC hd hK => ?_) ?_
            · obtain ⟨z0, z1, z2, z3, z4, z5, z6, z7, z8, z9, rfl⟩ := len10 hx
              clear hd hx
              simp only [putAll, Act.put, List.setIfInBounds_toArray, List.set_cons_zero, List.set_cons_succ] at hK ⊢
              go_simp
              exact hK _ _ rfl hC (Below.refl _ _)
            refine steps_cons (fun K' x hx w hC hd hK => ?_) ?_
            · obtain ⟨z0, z1, z2, z3, z4, z5, z6, z7, z8, z9, rfl⟩ := len10 hx
              obtain rfl : z1 = _ := hd 1 (by kernel_rfl)
              clear hd hx
              simp only [putAll, Act.put, List.setIfInBounds_toArray, List.set_cons_zero, List.set_cons_succ] at hK ⊢
              obtain ⟨y0, y1, y2, y3, y4, y5, y6, _⟩ := rowc7 ((Below.block hC _ HBL.out).trans HBX.out)
              go_simp
              exact hK _ _ rfl hC (Below.refl _ _)
            refine steps_cons (fun K' x hx w hC hd hK => ?_) ?_
            · obtain ⟨z0, z1, z2, z3, z4, z5, z6, z7, z8, z9, rfl⟩ := len10 hx
              obtain rfl : z2 = _ := hd 2 (by kernel_rfl)
              clear hd hx
              simp only [putAll, Act.put, List.setIfInBounds_toArray, List.set_cons_zero, List.set_cons_succ] at hK ⊢
              go_simp
              (go_at_call 54; (with_reducible refine (Wi.ctxt_any _ _).mono ?_); rintro e w1 ⟨rfl, hb⟩; exact hK _ _ rfl (Below.trans hC (hb.mono (Below.size hC))) hb)
            refine steps_cons (fun K' x hx w hC hd hK => ?_) ?_
            · obtain ⟨z0, z1, z2, z3, z4, z5, z6, z7, z8, z9, rfl⟩ := len10 hx
              clear hd hx
              simp only [putAll, Act.put, List.setIfInBounds_toArray, List.set_cons_zero, List.set_cons_succ] at hK ⊢
              go_simp
              exact hK _ _ rfl hC (Below.refl _ _)
            refine steps_cons (fun K' x hx w hC hd hK => ?_) ?_
            · obtain ⟨z0, z1, z2, z3, z4, z5, z6, z7, z8, z9, rfl⟩ := len10 hx
              obtain rfl : z4 = _ := hd 4 (by kernel_rfl)
              clear hd hx
              simp only [putAll, Act.put, List.setIfInBounds_toArray, List.set_cons_zero, List.set_cons_succ] at hK ⊢
              obtain ⟨y0, y1, y2, y3, y4, y5, y6, _⟩ := rowc7 ((Below.block hC _ HBL.out).trans HBX.out)
              go_simp
              exact hK _ _ rfl hC (Below.refl _ _)
            refine steps_cons (fun K' x hx w hC hd hK => ?_) ?_
            · obtain ⟨z0, z1, z2, z3, z4, z5, z6, z7, z8, z9, rfl⟩ := len10 hx
              obtain rfl : z5 = _ := hd 5 (by kernel_rfl)
              clear hd hx
              simp only [putAll, Act.put, List.setIfInBounds_toArray, List.set_cons_zero, List.set_cons_succ] at hK ⊢
              go_simp
              (go_at_call 55; (with_reducible refine (Wi.amounts_any _ _ _ _ HI3.out.1 HI3.out.2.1 HI3.out.2.2).mono ?_); rintro e w1 ⟨v, rfl, hb, hI⟩; exact hK _ _ (Wi.IsIt.mono (fun q hq => ⟨Nat.le_trans (Below.size hC) hq.1, hq.2⟩) _ hI) (Below.trans hC (hb.mono (Below.size hC))) hb)
            refine steps_cons (fun K' x hx w hC hd hK => ?_) ?_
            · obtain ⟨z0, z1, z2, z3, z4, z5, z6, z7, z8, z9, rfl⟩ := len10 hx
              obtain rfl : z3 = _ := hd 3 (by kernel_rfl)
              obtain hi6 := hd 6 (by kernel_rfl)
              clear hd hx
              simp only [putAll, Act.put, List.setIfInBounds_toArray, List.set_cons_zero, List.set_cons_succ] at hK ⊢
              obtain ⟨A6, c6, rfl, hq0, hq1, hq2, hq3, hal6⟩ := (show Wi.IsIt _ _ (.mk 3 0 ⟨#[]⟩ _) _ from hi6)
              clear hq0 hq1 hq2 hq3
              go_simp
              refine hK _ _ ⟨w.heap.size, rfl, ?_⟩ (Below.alloc hC (Below.size hC) _) ((Below.refl _ w).alloc (Nat.le_refl _) _)
              exact Wi.are2 ⟨Below.size hC, by simp⟩ (heap_alloc_new w _) (Wi.isIt_sIt _ _ _ HSS.out) (⟨A6, c6, rfl, ⟨by omega, by omega⟩, ⟨by omega, by omega⟩, by simp [Wi.zero_size], by simp [maxLen], Wi.AreIts.far hal6 ((Below.refl _ w).alloc (Nat.le_refl _) _)⟩)
            refine steps_cons (fun K' x hx w hC hd hK => ?_) ?_
            · obtain ⟨z0, z1, z2, z3, z4, z5, z6, z7, z8, z9, rfl⟩ := len10 hx
              obtain ⟨g, rfl, hal⟩ := hd 7 (by kernel_rfl)
              clear hd hx
              simp only [putAll, Act.put, List.setIfInBounds_toArray, List.set_cons_zero, List.set_cons_succ] at hK ⊢
              go_simp
              (go_at_call 53; (with_reducible refine (Wi.clist_any _ _ _ _).mono ?_); rintro e w1 ⟨rfl, hb⟩; exact hK _ _ ⟨g, rfl, Wi.AreIts.far hal hb⟩ (Below.trans hC (hb.mono (Below.size hC))) hb)
            refine steps_cons (fun K' x hx w hC hd hK => ?_) ?_
            · obtain ⟨z0, z1, z2, z3, z4, z5, z6, z7, z8, z9, rfl⟩ := len10 hx
              obtain ⟨g, rfl, hal⟩ := hd 8 (by kernel_rfl)
              clear hd hx
              simp only [putAll, Act.put, List.setIfInBounds_toArray, List.set_cons_zero, List.set_cons_succ] at hK ⊢
              go_simp
              exact hK _ _ ⟨w.heap.size, g, rfl, Below.size hC, heap_alloc_new w _, Wi.AreIts.far hal ((Below.refl _ w).alloc (Nat.le_refl _) _)⟩ (Below.alloc hC (Below.size hC) _) ((Below.refl _ w).alloc (Nat.le_refl _) _)
            exact trivial
          case hzT =>
            intro x hx w hC hd
            obtain ⟨z0, z1, z2, z3, z4, z5, z6, z7, z8, z9, rfl⟩ := len10 hx
            obtain ⟨g2, g, e10, hg2, hrow, hal⟩ := hd 9 (by omega)
            have hz0 : z0 = _ := hd 0 (by omega)
            replace hz0 := hz0.symm
            subst hz0
            change z9 = _ at e10
            subst e10
            clear hd hx
            simp only [putAll, Act.put, List.setIfInBounds_toArray, List.set_cons_zero, List.set_cons_succ]
            have hBW := HWB.out.trans (Below.mono hC HWB.out.size)
            obtain ⟨xs, ho, hI⟩ := HOt.out.below hBW
            obtain ⟨xs0, ho0, _⟩ := HOt.out
            have HOV := Lib.hid fun q hq => (Wi.own_lt ho0 q hq)
            obtain ⟨r0, r1, r2, r3, _⟩ := Wi.row4 hrow
            have HW := Lib.hid hBW
            have HII := Lib.hid hI
            have HOO := Lib.hid ho
            have HAL := Lib.hid hal
            have HG2 := Lib.hid hg2
            have HSW := Lib.hid HWB.out.size
            clear hBW hI ho hal hg2 ho0 hC hrow
            show wpList Tryz.prog _ _ (_ :: _ :: []) _ _
            go_wp2_with (at_builtin; (refine Wi.wp_app4 rfl (.tmp 46) (.tmp 55) rfl wb.heap.size vv TJ.length xs rfl HOO.out ⟨g2, 0, none⟩ 1 rfl (.int .i64 3) (.int .i64 0) (.string ⟨#[]⟩) (.slice (some ⟨g, 0, none⟩) 2 2) (by go_simp) (by go_simp) (by go_simp) (by go_simp) rfl rfl rfl rfl ?hln ?hbs ?_))
            case hln => have := HFL.out; omega
            case hbs => have := HW.out.size; have := HSZ.out; omega
            intro v2 w3 p1 p2 p3
            have A1 := Lib.hid (Wi.ItRow.snoc (x := .mk 3 0 ⟨#[]⟩ [Wi.sIt SS, Wi.vIt na nb nc]) HOO.out HII.out ⟨some ⟨g, 0, none⟩, 2, rfl, ⟨by omega, by omega⟩, ⟨by omega, by omega⟩, by simp [Wi.zero_size], by simp [maxLen], Wi.AreIts.mono (fun q hq => ⟨⟨Nat.le_trans HSZ.out (Nat.le_trans HSW.out hq.1), hq.2⟩, fun e => by have := (HOV.out q e).2; have := HSW.out; have := hq.1; omega⟩) _ HAL.out⟩ (by have := HW.out.size; have := HSZ.out; omega) p1 p2 p3)
            have B1 := Lib.hid ((HBWt.out.trans (HW.out.mono HSZ.out)).grown p2 (by have := HW.out.size; have := HSZ.out; omega) (fun q hq => (HOV.out q hq).1))
            clear p1 p2 p3 r0 r1 r2 r3 HOO HII HAL HOV HW
            go_wp2_with fail
            go_roundw
            case rel => exact ⟨v2, j + 1, rfl, Nat.succ_le_of_lt HLT.out, by go_num, by rw [HST.out, HIT.out]; exact A1.out, B1.out⟩
            case measure => exact meas_lt HLT.out
        · have hln : TSt.length = Nt := by rw [HTSt.out, List.length_map]; exact HNt.out.symm
          have hjl : TSt.take j = TSt := List.take_of_length_le (by omega)
          rw [hjl] at HOt
          clear hjl hln
          obtain ⟨LA2, LC2, hvv, _⟩ := HOt.out.form
          subst hvv
          have HV2 := HOt
          have HW2 := Lib.hid (HW1.out.trans ((HBt.out.trans (HBWt.out.mono HBt.out.size)).mono HW1.out.size))
          have HU2 := Lib.hid (Nat.le_trans (Nat.le_trans HW1.out.size HBt.out.size) (Nat.le_refl _))
          go_wp2_with (first | (go_at_call 14; (with_reducible refine (HCJ.out _ HW2.out).mono ?_); rintro e wc ⟨v1, rfl, hown, hb⟩; have HRj := Lib.hid hown; have HBj := Lib.hid hb; obtain ⟨A1, c1, hv1, hr1, _, _, _⟩ := hown.form; subst hv1; clear hown hb hr1))
          obtain ⟨Nj, hN⟩ : ∃ N, N = LJ.length := ⟨_, rfl⟩
          have HNj := Lib.hid hN
          rw [← hN]
          have hNbj : Nj ≤ 1000 := by rw [hN]; exact HLj.out
          clear hN
          go_loopw [5, 12, 61] (fun accV _ iV wr => ∃ (v : Value) (j : Nat), v = accV ∧ j ≤ Nj ∧ iV = .int .i64 j ∧ Wi.ItRow wc.heap.size wr v (TSj.take j) ∧ Below wc.heap.size wc wr) (fun _ _ iV _ => Nj - (intOf iV).toNat)
          case atStart => exact ⟨_, 0, rfl, Nat.zero_le _, rfl, Wi.ItRow.nil _ _, Below.refl _ _⟩
          case round =>
            obtain ⟨vv, j, rfl, hj, rfl, hir, hbw⟩ := hrel
            have HBWj := Lib.hid hbw
            have HOj := Lib.hid hir
            clear hir hbw
            by_cases hlt : j < Nj
            · obtain ⟨n, hn⟩ : ∃ n, LJ[j]? = some n := ⟨_, List.getElem?_eq_getElem (by have := HNj.out; omega)⟩
              have HLT := Lib.hid hlt
              obtain ⟨g, cp, hsl, hg1, hg2, hcs⟩ := HRj.out.at_ hn
              injection hsl with hA hLL hcp
              clear hLL
              subst hcp
              subst hA
              have HCS : ∀ q u, (jobC n)[q]? = some u → wr.cell? ⟨g, j * 7 + q, none⟩ = some u := fun q u hu => cellB (hcs q u hu) HBWj.out hg2
              have e0 : wr.cell? ⟨g, j * 7, none⟩ = some (.string (str n.s)) := HCS 0 _ rfl
              have e1 := HCS 1 _ rfl
              have e2 := HCS 2 _ rfl
              have e3 := HCS 3 _ rfl
              have e4 := HCS 4 _ rfl
              have e5 := HCS 5 _ rfl
              have e6 := HCS 6 _ rfl
              clear HCS hcs
              have HST : Hid (TSj.take (j + 1) = TSj.take j ++ [PS.jobI n]) := Lib.hid (by rw [List.take_add_one, HTSj.out, List.getElem?_map, hn]; rfl)
              have HFL : Hid ((TSj.take j).length ≤ 1000) := Lib.hid (by rw [List.length_take, HTSj.out, List.length_map]; have := HLj.out; omega)
              generalize TSj.take j = TJ at *
              have HSZ := Lib.hid HBWj.out.size
              obtain ⟨⟨hsz, hsz2, hsz3⟩, hi3, hst⟩ := HEj.out n (List.mem_of_getElem? hn)
              have HIT : Hid (PS.jobI n = .mk 3 0 ⟨#[]⟩ [Wi.sIt (str n.s), Wi.sIt (str n.t), Wi.vIt n.p n.q n.r, Wi.sIt (str n.on), Wi.nIt n.st]) := Lib.hid rfl
              generalize PS.jobI n = IT at *
              obtain ⟨ns, nt, na, nb, nc, non, nst⟩ := n
              dsimp only at *
              have HSS : Hid ((str ns).size ≤ maxLen) := Lib.hid (by rw [Nm.str_size]; simp only [maxLen]; omega)
              generalize str ns = SS at *
              have HTT : Hid ((str nt).size ≤ maxLen) := Lib.hid (by rw [Nm.str_size]; simp only [maxLen]; omega)
              generalize str nt = TT at *
              have HON : Hid ((str non).size ≤ maxLen) := Lib.hid (by rw [Nm.str_size]; simp only [maxLen]; omega)
              generalize str non = ON at *
              have HST2 : Hid (Wi.InR nst) := Lib.hid hst
              clear hsz2 hsz3 hst
              have HI3 : Hid (Wi.InR na ∧ Wi.InR nb ∧ Wi.InR nc) := Lib.hid hi3
              clear hsz hi3 hn
              go_wp2_with fail
              have HBX := Lib.hid (heap_alloc_new wr (.cells #[.string SS, .string TT, .int .i64 na, .int .i64 nb, .int .i64 nc, .string ON, .int .i64 nst] 46))
              have HWB := Lib.hid ((Below.refl wr.heap.size wr).alloc (Nat.le_refl _) (.cells #[.string SS, .string TT, .int .i64 na, .int .i64 nb, .int .i64 nc, .string ON, .int .i64 nst] 46))
              generalize wr.alloc (.cells #[.string SS, .string TT, .int .i64 na, .int .i64 nb, .int .i64 nc, .string ON, .int .i64 nst] 46) = W at *
              have HBL := Lib.hid (Array.getElem?_eq_some_iff.1 HBX.out).1
              refine wp_region_mono 19 [65, 66, 67, 68, 69, 70, 71, 72, 73, 74, 75, 76, 77, 78, 79, 80, 81, 82, 83] (fun i v w => match i with | 0 => v = vv | 1 => v = .pointer (some ⟨wr.heap.size, 0, none⟩) | 2 => v = .string SS | 3 => v = .agg #[.int .i64 2, .int .i64 0, .string SS, .slice none 0 0] | 4 => v = .pointer (some ⟨wr.heap.size, 1, none⟩) | 5 => v = .string TT | 6 => v = .agg #[.int .i64 2, .int .i64 0, .string TT, .slice none 0 0] | 7 => v = .pointer (some ⟨wr.heap.size, 2, none⟩) | 8 => v = .agg #[.int .i64 na, .int .i64 nb, .int .i64 nc] | 9 => Wi.IsIt w (Wi.Ran W.heap.size w) (Wi.vIt na nb nc) v | 10 => v = .pointer (some ⟨wr.heap.size, 5, none⟩) | 11 => v = .string ON | 12 => v = .agg #[.int .i64 2, .int .i64 0, .string ON, .slice none 0 0] | 13 => v = .pointer (some ⟨wr.heap.size, 6, none⟩) | 14 => v = .int .i64 nst | 15 => v = .agg #[.int .i64 1, .int .i64 nst, .string ⟨#[]⟩, .slice none 0 0] | 16 => ∃ g, v = .slice (some ⟨g, 0, none⟩) 5 5 ∧ Wi.AreIts w (Wi.Ran W.heap.size w) [Wi.sIt SS, Wi.sIt TT, Wi.vIt na nb nc, Wi.sIt ON, Wi.nIt nst] (some ⟨g, 0, none⟩) 0 | 17 => ∃ g, v = .agg #[.int .i64 3, .int .i64 0, .string ⟨#[]⟩, .slice (some ⟨g, 0, none⟩) 5 5] ∧ Wi.AreIts w (Wi.Ran W.heap.size w) [Wi.sIt SS, Wi.sIt TT, Wi.vIt na nb nc, Wi.sIt ON, Wi.nIt nst] (some ⟨g, 0, none⟩) 0 | 18 => ∃ g2 g, v = .slice (some ⟨g2, 0, none⟩) 1 1 ∧ W.heap.size ≤ g2 ∧ w.heap[g2]? = some (.cells #[.int .i64 3, .int .i64 0, .string ⟨#[]⟩, .slice (some ⟨g, 0, none⟩) 5 5] 111 (0, 0)) ∧ Wi.AreIts w (Wi.Ran W.heap.size w) [Wi.sIt SS, Wi.sIt TT, Wi.vIt na nb nc, Wi.sIt ON, Wi.nIt nst] (some ⟨g, 0, none⟩) 0 | _ => True) (fun w => Below W.heap.size W w) [u65, u66, u67, u68, u69, u70, u71, u72, u73, u74, u75, u76, u77, u78, u79, u80, u81, u82, u83] (by kernel_rfl) (by kernel_rfl) (by kernel_rfl) rfl (Below.refl _ _).drew ?hzV ?hzS ?hzT
              case hzV =>
                intro i v w w' hC h hB
                exact match i, h with
                | 0, h => h
                | 1, h => h
                | 2, h => h
                | 3, h => h
                | 4, h => h
                | 5, h => h
                | 6, h => h
                | 7, h => h
                | 8, h => h
                | 9, h => Wi.IsIt.far h hB
                | 10, h => h
                | 11, h => h
                | 12, h => h
                | 13, h => h
                | 14, h => h
                | 15, h => h
                | 16, h => (let ⟨g, h1, h2⟩ := h; ⟨g, h1, Wi.AreIts.far h2 hB⟩)
                | 17, h => (let ⟨g, h1, h2⟩ := h; ⟨g, h1, Wi.AreIts.far h2 hB⟩)
                | 18, h => (let ⟨g2, g, h1, h2, h3, h4⟩ := h; ⟨g2, g, h1, h2, (hB.block _ (Array.getElem?_eq_some_iff.1 h3).1).trans h3, Wi.AreIts.far h4 hB⟩)
                | i + 19, h => trivial
              case hzS =>
                refine steps_cons (fun K' x hx w hC hd hK => ?_) ?_
                · obtain ⟨z0, z1, z2, z3, z4, z5, z6, z7, z8, z9, z10, z11, z12, z13, z14, z15, z16, z17, z18, rfl⟩ := len19 hx
                  clear hd hx
                  simp only [putAll, Act.put, List.setIfInBounds_toArray, List.set_cons_zero, List.set_cons_succ] at hK ⊢
                  go_simp
                  exact hK _ _ rfl hC (Below.refl _ _)
                refine steps_cons (fun K' x hx w hC hd hK => ?_) ?_
                · obtain ⟨z0, z1, z2, z3, z4, z5, z6, z7, z8, z9, z10, z11, z12, z13, z14, z15, z16, z17, z18, rfl⟩ := len19 hx
                  clear hd hx
                  simp only [putAll, Act.put, List.setIfInBounds_toArray, List.set_cons_zero, List.set_cons_succ] at hK ⊢
                  go_simp
                  exact hK _ _ rfl hC (Below.refl _ _)
                refine steps_cons (fun K' x hx w hC hd hK => ?_) ?_
                · obtain ⟨z0, z1, z2, z3, z4, z5, z6, z7, z8, z9, z10, z11, z12, z13, z14, z15, z16, z17, z18, rfl⟩ := len19 hx
                  obtain rfl : z1 = _ := hd 1 (by kernel_rfl)
                  clear hd hx
                  simp only [putAll, Act.put, List.setIfInBounds_toArray, List.set_cons_zero, List.set_cons_succ] at hK ⊢
                  obtain ⟨y0, y1, y2, y3, y4, y5, y6, _⟩ := rowc7 ((Below.block hC _ HBL.out).trans HBX.out)
                  go_simp
                  exact hK _ _ rfl hC (Below.refl _ _)
                refine steps_cons (fun K' x hx w hC hd hK => ?_) ?_
                · obtain ⟨z0, z1, z2, z3, z4, z5, z6, z7, z8, z9, z10, z11, z12, z13, z14, z15, z16, z17, z18, rfl⟩ := len19 hx
                  obtain rfl : z2 = _ := hd 2 (by kernel_rfl)
                  clear hd hx
                  simp only [putAll, Act.put, List.setIfInBounds_toArray, List.set_cons_zero, List.set_cons_succ] at hK ⊢
                  go_simp
                  (go_at_call 54; (with_reducible refine (Wi.ctxt_any _ _).mono ?_); rintro e w1 ⟨rfl, hb⟩; exact hK _ _ rfl (Below.trans hC (hb.mono (Below.size hC))) hb)
                refine steps_cons (fun K' x hx w hC hd hK => ?_) ?_
                · obtain ⟨z0, z1, z2, z3, z4, z5, z6, z7, z8, z9, z10, z11, z12, z13, z14, z15, z16, z17, z18, rfl⟩ := len19 hx
                  clear hd hx
                  simp only [putAll, Act.put, List.setIfInBounds_toArray, List.set_cons_zero, List.set_cons_succ] at hK ⊢
                  go_simp
                  exact hK _ _ rfl hC (Below.refl _ _)
                refine steps_cons (fun K' x hx w hC hd hK => ?_) ?_
                · obtain ⟨z0, z1, z2, z3, z4, z5, z6, z7, z8, z9, z10, z11, z12, z13, z14, z15, z16, z17, z18, rfl⟩ := len19 hx
                  obtain rfl : z4 = _ := hd 4 (by kernel_rfl)
                  clear hd hx
                  simp only [putAll, Act.put, List.setIfInBounds_toArray, List.set_cons_zero, List.set_cons_succ] at hK ⊢
                  obtain ⟨y0, y1, y2, y3, y4, y5, y6, _⟩ := rowc7 ((Below.block hC _ HBL.out).trans HBX.out)
                  go_simp
                  exact hK _ _ rfl hC (Below.refl _ _)
                refine steps_cons (fun K' x hx w hC hd hK => ?_) ?_
                · obtain ⟨z0, z1, z2, z3, z4, z5, z6, z7, z8, z9, z10, z11, z12, z13, z14, z15, z16, z17, z18, rfl⟩ := len19 hx
                  obtain rfl : z5 = _ := hd 5 (by kernel_rfl)
                  clear hd hx
                  simp only [putAll, Act.put, List.setIfInBounds_toArray, List.set_cons_zero, List.set_cons_succ] at hK ⊢
                  go_simp
                  (go_at_call 54; (with_reducible refine (Wi.ctxt_any _ _).mono ?_); rintro e w1 ⟨rfl, hb⟩; exact hK _ _ rfl (Below.trans hC (hb.mono (Below.size hC))) hb)
                refine steps_cons (fun K' x hx w hC hd hK => ?_) ?_
                · obtain ⟨z0, z1, z2, z3, z4, z5, z6, z7, z8, z9, z10, z11, z12, z13, z14, z15, z16, z17, z18, rfl⟩ := len19 hx
                  clear hd hx
                  simp only [putAll, Act.put, List.setIfInBounds_toArray, List.set_cons_zero, List.set_cons_succ] at hK ⊢
                  go_simp
                  exact hK _ _ rfl hC (Below.refl _ _)
                refine steps_cons (fun K' x hx w hC hd hK => ?_) ?_
                · obtain ⟨z0, z1, z2, z3, z4, z5, z6, z7, z8, z9, z10, z11, z12, z13, z14, z15, z16, z17, z18, rfl⟩ := len19 hx
                  obtain rfl : z7 = _ := hd 7 (by kernel_rfl)
                  clear hd hx
                  simp only [putAll, Act.put, List.setIfInBounds_toArray, List.set_cons_zero, List.set_cons_succ] at hK ⊢
                  obtain ⟨y0, y1, y2, y3, y4, y5, y6, _⟩ := rowc7 ((Below.block hC _ HBL.out).trans HBX.out)
                  go_simp
                  exact hK _ _ rfl hC (Below.refl _ _)
                refine steps_cons (fun K' x hx w hC hd hK => ?_) ?_
                · obtain ⟨z0, z1, z2, z3, z4, z5, z6, z7, z8, z9, z10, z11, z12, z13, z14, z15, z16, z17, z18, rfl⟩ := len19 hx
                  obtain rfl : z8 = _ := hd 8 (by kernel_rfl)
                  clear hd hx
                  simp only [putAll, Act.put, List.setIfInBounds_toArray, List.set_cons_zero, List.set_cons_succ] at hK ⊢
                  go_simp
                  (go_at_call 55; (with_reducible refine (Wi.amounts_any _ _ _ _ HI3.out.1 HI3.out.2.1 HI3.out.2.2).mono ?_); rintro e w1 ⟨v, rfl, hb, hI⟩; exact hK _ _ (Wi.IsIt.mono (fun q hq => ⟨Nat.le_trans (Below.size hC) hq.1, hq.2⟩) _ hI) (Below.trans hC (hb.mono (Below.size hC))) hb)
                refine steps_cons (fun K' x hx w hC hd hK => ?_) ?_
                · obtain ⟨z0, z1, z2, z3, z4, z5, z6, z7, z8, z9, z10, z11, z12, z13, z14, z15, z16, z17, z18, rfl⟩ := len19 hx
                  clear hd hx
                  simp only [putAll, Act.put, List.setIfInBounds_toArray, List.set_cons_zero, List.set_cons_succ] at hK ⊢
                  go_simp
                  exact hK _ _ rfl hC (Below.refl _ _)
                refine steps_cons (fun K' x hx w hC hd hK => ?_) ?_
                · obtain ⟨z0, z1, z2, z3, z4, z5, z6, z7, z8, z9, z10, z11, z12, z13, z14, z15, z16, z17, z18, rfl⟩ := len19 hx
                  obtain rfl : z10 = _ := hd 10 (by kernel_rfl)
                  clear hd hx
                  simp only [putAll, Act.put, List.setIfInBounds_toArray, List.set_cons_zero, List.set_cons_succ] at hK ⊢
                  obtain ⟨y0, y1, y2, y3, y4, y5, y6, _⟩ := rowc7 ((Below.block hC _ HBL.out).trans HBX.out)
                  go_simp
                  exact hK _ _ rfl hC (Below.refl _ _)
                refine steps_cons (fun K' x hx w hC hd hK => ?_) ?_
                · obtain ⟨z0, z1, z2, z3, z4, z5, z6, z7, z8, z9, z10, z11, z12, z13, z14, z15, z16, z17, z18, rfl⟩ := len19 hx
                  obtain rfl : z11 = _ := hd 11 (by kernel_rfl)
                  clear hd hx
                  simp only [putAll, Act.put, List.setIfInBounds_toArray, List.set_cons_zero, List.set_cons_succ] at hK ⊢
                  go_simp
                  (go_at_call 54; (with_reducible refine (Wi.ctxt_any _ _).mono ?_); rintro e w1 ⟨rfl, hb⟩; exact hK _ _ rfl (Below.trans hC (hb.mono (Below.size hC))) hb)
                refine steps_cons (fun K' x hx w hC hd hK => ?_) ?_
                · obtain ⟨z0, z1, z2, z3, z4, z5, z6, z7, z8, z9, z10, z11, z12, z13, z14, z15, z16, z17, z18, rfl⟩ := len19 hx
                  clear hd hx
                  simp only [putAll, Act.put, List.setIfInBounds_toArray, List.set_cons_zero, List.set_cons_succ] at hK ⊢
                  go_simp
                  exact hK _ _ rfl hC (Below.refl _ _)
                refine steps_cons (fun K' x hx w hC hd hK => ?_) ?_
                · obtain ⟨z0, z1, z2, z3, z4, z5, z6, z7, z8, z9, z10, z11, z12, z13, z14, z15, z16, z17, z18, rfl⟩ := len19 hx
                  obtain rfl : z13 = _ := hd 13 (by kernel_rfl)
                  clear hd hx
                  simp only [putAll, Act.put, List.setIfInBounds_toArray, List.set_cons_zero, List.set_cons_succ] at hK ⊢
                  obtain ⟨y0, y1, y2, y3, y4, y5, y6, _⟩ := rowc7 ((Below.block hC _ HBL.out).trans HBX.out)
                  go_simp
                  exact hK _ _ rfl hC (Below.refl _ _)
                refine steps_cons (fun K' x hx w hC hd hK => ?_) ?_
                · obtain ⟨z0, z1, z2, z3, z4, z5, z6, z7, z8, z9, z10, z11, z12, z13, z14, z15, z16, z17, z18, rfl⟩ := len19 hx
                  obtain rfl : z14 = _ := hd 14 (by kernel_rfl)
                  clear hd hx
                  simp only [putAll, Act.put, List.setIfInBounds_toArray, List.set_cons_zero, List.set_cons_succ] at hK ⊢
                  go_simp
                  (go_at_call 52; (with_reducible refine (Wi.cnum_any _ _).mono ?_); rintro e w1 ⟨rfl, hb⟩; exact hK _ _ rfl (Below.trans hC (hb.mono (Below.size hC))) hb)
                refine steps_cons (fun K' x hx w hC hd hK => ?_) ?_
                · obtain ⟨z0, z1, z2, z3, z4, z5, z6, z7, z8, z9, z10, z11, z12, z13, z14, z15, z16, z17, z18, rfl⟩ := len19 hx
                  obtain rfl : z3 = _ := hd 3 (by kernel_rfl)
                  obtain rfl : z6 = _ := hd 6 (by kernel_rfl)
                  obtain hi9 := hd 9 (by kernel_rfl)
                  obtain rfl : z12 = _ := hd 12 (by kernel_rfl)
                  obtain rfl : z15 = _ := hd 15 (by kernel_rfl)
                  clear hd hx
                  simp only [putAll, Act.put, List.setIfInBounds_toArray, List.set_cons_zero, List.set_cons_succ] at hK ⊢
                  obtain ⟨A9, c9, rfl, hq0, hq1, hq2, hq3, hal9⟩ := (show Wi.IsIt _ _ (.mk 3 0 ⟨#[]⟩ _) _ from hi9)
                  clear hq0 hq1 hq2 hq3
                  go_simp
                  refine hK _ _ ⟨w.heap.size, rfl, ?_⟩ (Below.alloc hC (Below.size hC) _) ((Below.refl _ w).alloc (Nat.le_refl _) _)
                  exact Wi.are5 ⟨Below.size hC, by simp⟩ (heap_alloc_new w _) (Wi.isIt_sIt _ _ _ HSS.out) (Wi.isIt_sIt _ _ _ HTT.out) (⟨A9, c9, rfl, ⟨by omega, by omega⟩, ⟨by omega, by omega⟩, by simp [Wi.zero_size], by simp [maxLen], Wi.AreIts.far hal9 ((Below.refl _ w).alloc (Nat.le_refl _) _)⟩) (Wi.isIt_sIt _ _ _ HON.out) (Wi.isIt_nIt _ _ _ HST2.out)
                refine steps_cons (fun K' x hx w hC hd hK => ?_) ?_
                · obtain ⟨z0, z1, z2, z3, z4, z5, z6, z7, z8, z9, z10, z11, z12, z13, z14, z15, z16, z17, z18, rfl⟩ := len19 hx
                  obtain ⟨g, rfl, hal⟩ := hd 16 (by kernel_rfl)
                  clear hd hx
                  simp only [putAll, Act.put, List.setIfInBounds_toArray, List.set_cons_zero, List.set_cons_succ] at hK ⊢
                  go_simp
                  (go_at_call 53; (with_reducible refine (Wi.clist_any _ _ _ _).mono ?_); rintro e w1 ⟨rfl, hb⟩; exact hK _ _ ⟨g, rfl, Wi.AreIts.far hal hb⟩ (Below.trans hC (hb.mono (Below.size hC))) hb)
                refine steps_cons (fun K' x hx w hC hd hK => ?_) ?_
                · obtain ⟨z0, z1, z2, z3, z4, z5, z6, z7, z8, z9, z10, z11, z12, z13, z14, z15, z16, z17, z18, rfl⟩ := len19 hx
                  obtain ⟨g, rfl, hal⟩ := hd 17 (by kernel_rfl)
                  clear hd hx
                  simp only [putAll, Act.put, List.setIfInBounds_toArray, List.set_cons_zero, List.set_cons_succ] at hK ⊢
                  go_simp
                  exact hK _ _ ⟨w.heap.size, g, rfl, Below.size hC, heap_alloc_new w _, Wi.AreIts.far hal ((Below.refl _ w).alloc (Nat.le_refl _) _)⟩ (Below.alloc hC (Below.size hC) _) ((Below.refl _ w).alloc (Nat.le_refl _) _)
                exact trivial
              case hzT =>
                intro x hx w hC hd
                obtain ⟨z0, z1, z2, z3, z4, z5, z6, z7, z8, z9, z10, z11, z12, z13, z14, z15, z16, z17, z18, rfl⟩ := len19 hx
                obtain ⟨g2, g, e10, hg2, hrow, hal⟩ := hd 18 (by omega)
                have hz0 : z0 = _ := hd 0 (by omega)
                replace hz0 := hz0.symm
                subst hz0
                change z18 = _ at e10
                subst e10
                clear hd hx
                simp only [putAll, Act.put, List.setIfInBounds_toArray, List.set_cons_zero, List.set_cons_succ]
                have hBW := HWB.out.trans (Below.mono hC HWB.out.size)
                obtain ⟨xs, ho, hI⟩ := HOj.out.below hBW
                obtain ⟨xs0, ho0, _⟩ := HOj.out
                have HOV := Lib.hid fun q hq => (Wi.own_lt ho0 q hq)
                obtain ⟨r0, r1, r2, r3, _⟩ := Wi.row4 hrow
                have HW := Lib.hid hBW
                have HII := Lib.hid hI
                have HOO := Lib.hid ho
                have HAL := Lib.hid hal
                have HG2 := Lib.hid hg2
                have HSW := Lib.hid HWB.out.size
                clear hBW hI ho hal hg2 ho0 hC hrow
                show wpList Tryz.prog _ _ (_ :: _ :: []) _ _
                go_wp2_with (at_builtin; (refine Wi.wp_app4 rfl (.tmp 65) (.tmp 83) rfl wc.heap.size vv TJ.length xs rfl HOO.out ⟨g2, 0, none⟩ 1 rfl (.int .i64 3) (.int .i64 0) (.string ⟨#[]⟩) (.slice (some ⟨g, 0, none⟩) 5 5) (by go_simp) (by go_simp) (by go_simp) (by go_simp) rfl rfl rfl rfl ?hln ?hbs ?_))
                case hln => have := HFL.out; omega
                case hbs => have := HW.out.size; have := HSZ.out; omega
                intro v2 w3 p1 p2 p3
                have A1 := Lib.hid (Wi.ItRow.snoc (x := .mk 3 0 ⟨#[]⟩ [Wi.sIt SS, Wi.sIt TT, Wi.vIt na nb nc, Wi.sIt ON, Wi.nIt nst]) HOO.out HII.out ⟨some ⟨g, 0, none⟩, 5, rfl, ⟨by omega, by omega⟩, ⟨by omega, by omega⟩, by simp [Wi.zero_size], by simp [maxLen], Wi.AreIts.mono (fun q hq => ⟨⟨Nat.le_trans HSZ.out (Nat.le_trans HSW.out hq.1), hq.2⟩, fun e => by have := (HOV.out q e).2; have := HSW.out; have := hq.1; omega⟩) _ HAL.out⟩ (by have := HW.out.size; have := HSZ.out; omega) p1 p2 p3)
                have B1 := Lib.hid ((HBWj.out.trans (HW.out.mono HSZ.out)).grown p2 (by have := HW.out.size; have := HSZ.out; omega) (fun q hq => (HOV.out q hq).1))
                clear p1 p2 p3 r0 r1 r2 r3 HOO HII HAL HOV HW
                go_wp2_with fail
                go_roundw
                case rel => exact ⟨v2, j + 1, rfl, Nat.succ_le_of_lt HLT.out, by go_num, by rw [HST.out, HIT.out]; exact A1.out, B1.out⟩
                case measure => exact meas_lt HLT.out
            · have hln : TSj.length = Nj := by rw [HTSj.out, List.length_map]; exact HNj.out.symm
              have hjl : TSj.take j = TSj := List.take_of_length_le (by omega)
              rw [hjl] at HOj
              clear hjl hln
              obtain ⟨LA3, LC3, hvv, _⟩ := HOj.out.form
              subst hvv
              have HV3 := HOj
              have HW3 := Lib.hid (HW2.out.trans ((HBj.out.trans (HBWj.out.mono HBj.out.size)).mono HW2.out.size))
              have HU3 := Lib.hid (Nat.le_trans (Nat.le_trans HW2.out.size HBj.out.size) (Nat.le_refl _))
              have PN := Lib.hid (HV1.out.below (HBt.out.trans ((HBWt.out.mono HBt.out.size).trans ((HBj.out.trans (HBWj.out.mono HBj.out.size)).mono (Nat.le_trans HBt.out.size HBWt.out.size)))))
              have PT := Lib.hid (HV2.out.below (HBj.out.trans (HBWj.out.mono HBj.out.size)))
              have PJ := Lib.hid HV3.out
              clear HV1 HV2 HV3
              have HWW := Lib.hid HW3.out
              obtain ⟨A1', C1', e1, hal1⟩ := PN.out.form
              obtain ⟨A2', C2', e2, hal2⟩ := PT.out.form
              obtain ⟨A3', C3', e3, hal3⟩ := PJ.out.form
              injection e1 with ea1 _ ec1
              rw [← ea1] at hal1
              clear ea1 ec1
              injection e2 with ea2 _ ec2
              rw [← ea2] at hal2
              clear ea2 ec2
              injection e3 with ea3 _ ec3
              rw [← ea3] at hal3
              clear ea3 ec3
              have HLn := (show TSn.length ≤ maxLen by rw [HTSn.out, List.length_map]; have := HLn0.out; simp only [maxLen]; omega)
              have HLt := (show TSt.length ≤ maxLen by rw [HTSt.out, List.length_map]; have := HLt0.out; simp only [maxLen]; omega)
              have HLj := (show TSj.length ≤ maxLen by rw [HTSj.out, List.length_map]; have := HLj0.out; simp only [maxLen]; omega)
              have HI1 := Lib.hid (fun X (hX : Below wr.heap.size wr X) => Wi.isIt_row X (· < X.heap.size) TSn LA1 LC1 HLn (Wi.AreIts.mono (fun q hq => hq.2) TSn (Wi.AreIts.far hal1 hX)))
              have HI2 := Lib.hid (fun X (hX : Below wr.heap.size wr X) => Wi.isIt_row X (· < X.heap.size) TSt LA2 LC2 HLt (Wi.AreIts.mono (fun q hq => hq.2) TSt (Wi.AreIts.far hal2 hX)))
              have HI3 := Lib.hid (fun X (hX : Below wr.heap.size wr X) => Wi.isIt_row X (· < X.heap.size) TSj LA3 LC3 HLj (Wi.AreIts.mono (fun q hq => hq.2) TSj (Wi.AreIts.far hal3 hX)))
              clear hal1 hal2 hal3 PN PT PJ HLn HLt HLj HTSn HTSt HTSj
              have HE0 := Lib.hid (Below.refl wr.heap.size wr)
              generalize TSn.length = n1 at *
              generalize TSt.length = n2 at *
              generalize TSj.length = n3 at *
              have HAR := Lib.hid (fun X (hX : Below wr.heap.size wr X) => Wi.are3 (w := X.alloc (.cells #[.int .i64 3, .int .i64 0, .string ⟨#[]⟩, .slice LA1 n1 LC1, .int .i64 3, .int .i64 0, .string ⟨#[]⟩, .slice LA2 n2 LC2, .int .i64 3, .int .i64 0, .string ⟨#[]⟩, .slice LA3 n3 LC3] 111)) (S := (· < (X.alloc (.cells #[.int .i64 3, .int .i64 0, .string ⟨#[]⟩, .slice LA1 n1 LC1, .int .i64 3, .int .i64 0, .string ⟨#[]⟩, .slice LA2 n2 LC2, .int .i64 3, .int .i64 0, .string ⟨#[]⟩, .slice LA3 n3 LC3] 111)).heap.size)) (by simp) (heap_alloc_new X _) (HI1.out _ (hX.alloc hX.size _)) (HI2.out _ (hX.alloc hX.size _)) (HI3.out _ (hX.alloc hX.size _)))
              go_wp2_with (first | (go_at_call 53; (with_reducible refine (Wi.clist_any LA1 n1 LC1 _).mono ?_); rintro e wd ⟨rfl, hb⟩; have HBd := Lib.hid hb; clear hb) | (go_at_call 53; (with_reducible refine (Wi.clist_any LA2 n2 LC2 _).mono ?_); rintro e we ⟨rfl, hb⟩; have HBe := Lib.hid (HBd.out.trans (hb.mono HBd.out.size)); clear hb) | (go_at_call 53; (with_reducible refine (Wi.clist_any LA3 n3 LC3 _).mono ?_); rintro e wf ⟨rfl, hb⟩; have HBf := Lib.hid (HBe.out.trans (hb.mono HBe.out.size)); clear hb) | (go_at_call 56; (refine (Wi.encoding_any [.mk 3 0 ⟨#[]⟩ TSn, .mk 3 0 ⟨#[]⟩ TSt, .mk 3 0 ⟨#[]⟩ TSj] _ 3 3 _ rfl (by simp [maxLen]) (HAR.out wf HBf.out)).mono ?_); rintro e wg ⟨he, hb⟩; rw [HTX.out] at he; generalize Wi.errOf _ = EE at he; subst he; have HBg := Lib.hid ((HBf.out.alloc HBf.out.size _).trans (hb.mono (by have := HBf.out.size; simp; omega))); clear hb))
              go_ret
              exact ⟨rfl, HWW.out.trans (HBg.out.mono HWW.out.size)⟩
theorem save_txt (S : St) : Wi.txt (PS.item S) = str (PS.save S) := by
  unfold Wi.txt PS.save
  split <;> rfl
theorem save_any {w : World} {b : Nat} {S : St} {T : Nat → Prop} (h : Sch w b S T) (hok : Ok S) : Calls Tryz.prog 20 #[.pointer (some ⟨b, 0, none⟩)] w (RetBelow (.string (str (PS.save S))) w) := by
  refine save_core b ((byName S.N).map row) (byName S.T) (byName S.J) _ _ _ _ w (Lib.hid (by rw [List.length_map]; exact Nat.le_trans (byName_len _) hok.nl)) (Lib.hid (Nat.le_trans (byName_len _) hok.tl)) (Lib.hid (Nat.le_trans (byName_len _) hok.jl))
    (Lib.hid rfl) (Lib.hid rfl) (Lib.hid rfl) (Lib.hid fun n hn => ?_) (Lib.hid fun n hn => ?_) (Lib.hid fun n hn => ?_) (Lib.hid fun X hX => nodes_any (h.below hX) hok) (Lib.hid fun X hX => tenants_any (h.below hX) hok) (Lib.hid fun X hX => jobs_any (h.below hX) hok) (Lib.hid ?_)
  · obtain ⟨m, hm, rfl⟩ := List.mem_map.1 hn
    obtain ⟨k, hk⟩ := byName_mem hm
    have := hok.nod hk
    exact ⟨this.s, this.i.1, this.i.2.1, this.i.2.2.1⟩
  · obtain ⟨k, hk⟩ := byName_mem hn
    have := hok.ten hk
    exact ⟨this.s, this.i.1, this.i.2.1, this.i.2.2.1⟩
  · obtain ⟨k, hk⟩ := byName_mem hn
    have := hok.job hk
    exact ⟨this.s, ⟨this.i.1, this.i.2.1, this.i.2.2.1⟩, this.i.2.2.2⟩
  · rw [← save_txt]
    unfold PS.item PS.lI
    rw [List.map_map]
    rfl
end Go.Proofs.YtphclpjekpdifaaGreat
