import Derived.Test.YtphclpjekpdifaaTk
import Derived.Test.YtphclpjekpdifaaPc
import Derived.Test.YtphclpjekpdifaaRh
namespace Go.Proofs.Ytphclpjekpdifaa
set_option maxRecDepth 20000
open Go.RowKit
open SP
open Go.Proofs.Ytphclpjekpdifaa.Nm (str)
open Wi (RetBelow)
open Wi.Pl (It)
set_option linter.unusedVariables false
/-! ### a table saved -/
theorem len15 {x : List Value} (h : x.length = 15) : ∃ z0 z1 z2 z3 z4 z5 z6 z7 z8 z9 z10 z11 z12 z13 z14, x = [z0, z1, z2, z3, z4, z5, z6, z7, z8, z9, z10, z11, z12, z13, z14] := by
  obtain ⟨z0, x0, e0, h0⟩ := cons_of h
  obtain ⟨z1, x1, e1, h1⟩ := cons_of h0
  obtain ⟨z2, x2, e2, h2⟩ := cons_of h1
  obtain ⟨z3, x3, e3, h3⟩ := cons_of h2
  obtain ⟨z4, x4, e4, h4⟩ := cons_of h3
  obtain ⟨z5, x5, e5, h5⟩ := cons_of h4
  obtain ⟨z6, x6, e6, h6⟩ := cons_of h5
  obtain ⟨z7, x7, e7, h7⟩ := cons_of h6
  obtain ⟨z8, x8, e8, h8⟩ := cons_of h7
  obtain ⟨z9, x9, e9, h9⟩ := cons_of h8
  obtain ⟨z10, x10, e10, h10⟩ := cons_of h9
  obtain ⟨z11, x11, e11, h11⟩ := cons_of h10
  obtain ⟨z12, x12, e12, h12⟩ := cons_of h11
  obtain ⟨z13, x13, e13, h13⟩ := cons_of h12
  obtain ⟨z14, x14, e14, h14⟩ := cons_of h13
  exact ⟨z0, z1, z2, z3, z4, z5, z6, z7, z8, z9, z10, z11, z12, z13, z14, by rw [e0, e1, e2, e3, e4, e5, e6, e7, e8, e9, e10, e11, e12, e13, e14, nil_of h14]⟩
theorem len19 {x : List Value} (h : x.length = 19) : ∃ z0 z1 z2 z3 z4 z5 z6 z7 z8 z9 z10 z11 z12 z13 z14 z15 z16 z17 z18, x = [z0, z1, z2, z3, z4, z5, z6, z7, z8, z9, z10, z11, z12, z13, z14, z15, z16, z17, z18] := by
  obtain ⟨z0, x0, e0, h0⟩ := cons_of h
  obtain ⟨z1, x1, e1, h1⟩ := cons_of h0
  obtain ⟨z2, x2, e2, h2⟩ := cons_of h1
  obtain ⟨z3, x3, e3, h3⟩ := cons_of h2
  obtain ⟨z4, x4, e4, h4⟩ := cons_of h3
  obtain ⟨z5, x5, e5, h5⟩ := cons_of h4
  obtain ⟨z6, x6, e6, h6⟩ := cons_of h5
  obtain ⟨z7, x7, e7, h7⟩ := cons_of h6
  obtain ⟨z8, x8, e8, h8⟩ := cons_of h7
  obtain ⟨z9, x9, e9, h9⟩ := cons_of h8
  obtain ⟨z10, x10, e10, h10⟩ := cons_of h9
  obtain ⟨z11, x11, e11, h11⟩ := cons_of h10
  obtain ⟨z12, x12, e12, h12⟩ := cons_of h11
  obtain ⟨z13, x13, e13, h13⟩ := cons_of h12
  obtain ⟨z14, x14, e14, h14⟩ := cons_of h13
  obtain ⟨z15, x15, e15, h15⟩ := cons_of h14
  obtain ⟨z16, x16, e16, h16⟩ := cons_of h15
  obtain ⟨z17, x17, e17, h17⟩ := cons_of h16
  obtain ⟨z18, x18, e18, h18⟩ := cons_of h17
  exact ⟨z0, z1, z2, z3, z4, z5, z6, z7, z8, z9, z10, z11, z12, z13, z14, z15, z16, z17, z18, by rw [e0, e1, e2, e3, e4, e5, e6, e7, e8, e9, e10, e11, e12, e13, e14, e15, e16, e17, e18, nil_of h18]⟩
theorem are4 {w : World} {S : Nat → Prop} {b : Nat} {t0 t1 t2 t3 : It} {a0 a1 a2 a3 b0 b1 b2 b3 c0 c1 c2 c3 d0 d1 d2 d3 : Value} {t : TypeId} {fz : Nat × Nat} (hb : S b) (h : w.heap[b]? = some (.cells #[a0, a1, a2, a3, b0, b1, b2, b3, c0, c1, c2, c3, d0, d1, d2, d3] t fz))
    (h0 : Wi.IsIt w S t0 (.agg #[a0, a1, a2, a3])) (h1 : Wi.IsIt w S t1 (.agg #[b0, b1, b2, b3])) (h2 : Wi.IsIt w S t2 (.agg #[c0, c1, c2, c3])) (h3 : Wi.IsIt w S t3 (.agg #[d0, d1, d2, d3])) : Wi.AreIts w S [t0, t1, t2, t3] (some ⟨b, 0, none⟩) 0 := by
  refine Wi.ItsIn.are (us := [a0, a1, a2, a3, b0, b1, b2, b3, c0, c1, c2, c3, d0, d1, d2, d3]) hb ⟨_, _, _, _, _, rfl, h0, _, _, _, _, _, rfl, h1, _, _, _, _, _, rfl, h2, _, _, _, _, _, rfl, h3, rfl⟩ fun j u hu => ?_
  rw [Nat.zero_mul, Nat.zero_add]
  simp only [World.cell?, h]
  simpa using hu
theorem pack_ok {r : Rp} (h : mayP r = true) : Wi.errR r.e r.s r.a r.b r.c r.n = 0 ∧ (packS r).size ≤ 4096 := by
  have hm : Wi.mayR r.e r.s = true := h
  obtain ⟨_, _, hs⟩ := Wi.mayR_size hm
  refine ⟨by unfold Wi.errR; rw [if_pos hm], ?_⟩
  unfold packS Wi.packR
  rw [if_pos hm, Nm.str_size]
  have d1 := Wi.Pl.dgs_le (Wi.Pl.foldN r.e)
  have d2 := Wi.Pl.dgs_le (Wi.Pl.foldN r.a)
  have d3 := Wi.Pl.dgs_le (Wi.Pl.foldN r.b)
  have d4 := Wi.Pl.dgs_le (Wi.Pl.foldN r.c)
  have d5 := Wi.Pl.dgs_le (Wi.Pl.foldN r.n)
  have d6 := Wi.Pl.dgs_le r.s.size
  have d7 := Wi.Pl.dgs_le 3
  have d8 := Wi.Pl.dgs_le 4
  have hsz : r.s.data.toList.length = r.s.size := by simp only [Array.length_toList]; rfl
  simp [Wi.rIt, Wi.vIt, Wi.nIt, Wi.sIt, Wi.Pl.It.enc, Wi.Pl.encs, Wi.Pl.cntB_length]
  have hsz2 : r.s.data.size = r.s.size := rfl
  omega
set_option maxHeartbeats 8000000 in
theorem save_at {w : World} {b : Nat} {T : Tb} {v : Value} {S : Nat → Prop} (h : TAt w b T v S) (hI : Inv T) : Calls Try.prog 7 #[.pointer (some ⟨b, 0, none⟩)] w (RetBelow (.string (save T)) w) := by
  have hlen := hI.len
  have H := Lib.hid h
  obtain ⟨A, cap, hv, _, hcap, hcm, _⟩ := h.row.form
  obtain ⟨c0, c1, c2, _⟩ := tcells h.box
  have hbl := h.lt b h.own
  obtain ⟨TS, hTS⟩ : ∃ TS, TS = T.L.map sesI := ⟨_, rfl⟩
  have HTS := Lib.hid hTS
  have HSV : Hid (save T = Wi.txt (.mk 3 0 ⟨#[]⟩ [Wi.nIt T.clk, Wi.nIt (T.lst + 1), .mk 3 0 ⟨#[]⟩ TS])) := Lib.hid (by rw [hTS]; rfl)
  have HPK : Hid (∀ s ∈ T.L, ∀ X, Calls Try.prog 16 #[rpV s.r] X fun e Y => e = .returned (.tuple #[.string (packS s.r), .int .i64 0]) ∧ Below X.heap.size X Y) := Lib.hid fun s hs X => by
    have q := hI.all s hs
    have hm : Wi.mayR s.r.e s.r.s = true := q.p
    obtain ⟨q1, q2, _⟩ := Wi.mayR_size hm
    refine (Wi.packR_any s.r.e s.r.s s.r.a s.r.b s.r.c s.r.n X ⟨by omega, by omega⟩ q.i.a q.i.b q.i.c q.i.n).mono ?_
    rintro e Y ⟨he, hb⟩
    rw [(pack_ok q.p).1] at he
    exact ⟨he, hb⟩
  have HIN : Hid (∀ s ∈ T.L, Wi.InR s.id ∧ Wi.InR s.seq ∧ Wi.InR s.u ∧ (packS s.r).size ≤ maxLen) := Lib.hid fun s hs => by
    have q := hI.all s hs
    have m1 := hI.l2
    have m2 := hI.c2
    have q1 := q.id1
    have q2 := q.id2
    have q3 := q.sq1
    have q4 := q.sq2
    have q5 := q.u1
    have q6 := q.u2
    have := (pack_ok q.p).2
    unfold M at m1 m2 q4
    refine ⟨⟨by omega, by omega⟩, ⟨by omega, by omega⟩, ⟨by omega, by omega⟩, by simp only [maxLen]; omega⟩
  have HRG : Hid (Wi.InR T.clk ∧ Wi.InR (T.lst + 1)) := Lib.hid (by
    have m1 := hI.l2
    have m2 := hI.c2
    have m3 := hI.c1
    have m4 := hI.l1
    unfold M at m1 m2
    exact ⟨⟨by omega, by omega⟩, ⟨by omega, by omega⟩⟩)
  have HLS : Hid (0 ≤ T.lst ∧ T.lst ≤ 4611686018427387904) := Lib.hid ⟨hI.l1, hI.l2⟩
  rw [hv] at c2
  have HBX0 : Hid (w.heap[b]? = some (.cells #[.int .i64 T.clk, .int .i64 T.lst, v] 49 (0, 0))) := Lib.hid h.box
  generalize hn : T.L.length = n at *
  have HN := Lib.hid hn
  have HV := Lib.hid hv
  have HBLT := Lib.hid hbl
  clear h hI hn hv hTS
  generalize save T = TX at *
  obtain ⟨B0, hB0E⟩ : ∃ B0, B0 = w.heap.size := ⟨_, rfl⟩
  have HB0E := Lib.hid hB0E
  clear hB0E
  go_enter Try.func7, Try.ntmps7
  go_wp2_with fail
  clear c0 c1 c2
  go_loopw [3, 5, 6, 7, 19] (fun accV _ _ _ iV wr => ∃ (u : Value) (j : Nat), u = accV ∧ j ≤ n ∧ iV = .int .i64 j ∧ Wi.ItRow B0 wr u (TS.take j) ∧ Below w.heap.size w wr) (fun _ _ _ _ iV _ => n - (intOf iV).toNat)
  case atStart => exact ⟨_, 0, rfl, Nat.zero_le _, rfl, Wi.ItRow.nil _ _, Below.refl _ _⟩
  case round =>
    obtain ⟨vv, j, rfl, hj, rfl, hir, hbw⟩ := hrel
    have HBW := Lib.hid hbw
    have HO := Lib.hid hir
    clear hir hbw
    by_cases hlt : j < n
    · obtain ⟨s, hs⟩ : ∃ s, T.L[j]? = some s := ⟨_, List.getElem?_eq_getElem (by have := HN.out; omega)⟩
      have HLT := Lib.hid hlt
      have i1 : (j : Int) < (n : Int) := by omega
      obtain ⟨g, cp, hsl, ho, hg1, hcs⟩ := (H.out.below HBW.out).cells hs
      rw [HV.out] at hsl
      injection hsl with hA hLL hcp
      clear hLL
      subst hcp
      subst hA
      have e0 : wr.cell? ⟨g, j * 9, none⟩ = some (.int .i64 s.id) := (hcs 0 _ rfl).1
      have e1 := (hcs 1 _ rfl).1
      have e2 := (hcs 2 _ rfl).1
      have e3 := (hcs 3 _ rfl).1
      have e4 := (hcs 4 _ rfl).1
      have e5 := (hcs 5 _ rfl).1
      have e6 := (hcs 6 _ rfl).1
      have e7 := (hcs 7 _ rfl).1
      have e8 := (hcs 8 _ rfl).1
      have HST : Hid (TS.take (j + 1) = TS.take j ++ [sesI s]) := Lib.hid (by rw [List.take_add_one, HTS.out, List.getElem?_map, hs]; rfl)
      have HFL : Hid ((TS.take j).length ≤ 1000) := Lib.hid (by rw [List.length_take, HTS.out, List.length_map]; have := HN.out; omega)
      generalize TS.take j = TJ at *
      have HSZ := Lib.hid HBW.out.size
      have HSZ0 := Lib.hid (show B0 ≤ wr.heap.size by have := HSZ.out; have := HB0E.out; omega)
      have hmem := List.mem_of_getElem? hs
      have HP := Lib.hid (HPK.out s hmem)
      obtain ⟨hn1, hn2, hn3, hn4⟩ := HIN.out s hmem
      have HN1 := Lib.hid hn1
      have HN2 := Lib.hid hn2
      have HN3 := Lib.hid hn3
      have HPT := Lib.hid hn4
      have HIT : Hid (sesI s = .mk 3 0 ⟨#[]⟩ [Wi.nIt s.id, Wi.nIt s.seq, Wi.nIt s.u, Wi.sIt (packS s.r)]) := Lib.hid rfl
      clear hcs ho hmem hn1 hn2 hn3 hn4
      clear hs
      generalize sesI s = IT at *
      generalize packS s.r = PT at *
      obtain ⟨sid, sq, ⟨re, rs, ra, rb, rc, rn⟩, su⟩ := s
      dsimp only [rpV] at *
      have HWN := Lib.hid (heap_alloc_new wr (.cells #[.int .i64 sid, .int .i64 sq, .int .i64 re, .string rs, .int .i64 ra, .int .i64 rb, .int .i64 rc, .int .i64 rn, .int .i64 su] 52))
      have HWA := Lib.hid ((Below.refl wr.heap.size wr).alloc (Nat.le_refl _) (.cells #[.int .i64 sid, .int .i64 sq, .int .i64 re, .string rs, .int .i64 ra, .int .i64 rb, .int .i64 rc, .int .i64 rn, .int .i64 su] 52))
      go_wp2_with (go_at_call 16; (with_reducible refine (HP.out _).mono ?_); rintro e W ⟨rfl, hb2⟩; have HWB := Lib.hid (HWA.out.trans (hb2.mono HWA.out.size)); have HBX := Lib.hid ((hb2.block wr.heap.size (by simp)).trans HWN.out); clear hb2)
      have HBL := Lib.hid (Array.getElem?_eq_some_iff.1 HBX.out).1
      refine wp_region_mono 15 [29, 30, 31, 32, 33, 34, 35, 36, 37, 38, 39, 40, 41, 42, 43] (fun i v w => match i with | 0 => v = vv | 1 => v = .pointer (some ⟨wr.heap.size, 0, none⟩) | 2 => v = .int .i64 sid | 3 => v = .agg #[.int .i64 1, .int .i64 sid, .string ⟨#[]⟩, .slice none 0 0] | 4 => v = .pointer (some ⟨wr.heap.size, 1, none⟩) | 5 => v = .int .i64 sq | 6 => v = .agg #[.int .i64 1, .int .i64 sq, .string ⟨#[]⟩, .slice none 0 0] | 7 => v = .pointer (some ⟨wr.heap.size, 8, none⟩) | 8 => v = .int .i64 su | 9 => v = .agg #[.int .i64 1, .int .i64 su, .string ⟨#[]⟩, .slice none 0 0] | 10 => v = .string PT | 11 => v = .agg #[.int .i64 2, .int .i64 0, .string PT, .slice none 0 0] | 12 => ∃ g, v = .slice (some ⟨g, 0, none⟩) 4 4 ∧ Wi.AreIts w (Wi.Ran W.heap.size w) [Wi.nIt sid, Wi.nIt sq, Wi.nIt su, Wi.sIt PT] (some ⟨g, 0, none⟩) 0 | 13 => ∃ g, v = .agg #[.int .i64 3, .int .i64 0, .string ⟨#[]⟩, .slice (some ⟨g, 0, none⟩) 4 4] ∧ Wi.AreIts w (Wi.Ran W.heap.size w) [Wi.nIt sid, Wi.nIt sq, Wi.nIt su, Wi.sIt PT] (some ⟨g, 0, none⟩) 0 | 14 => ∃ g2 g, v = .slice (some ⟨g2, 0, none⟩) 1 1 ∧ W.heap.size ≤ g2 ∧ w.heap[g2]? = some (.cells #[.int .i64 3, .int .i64 0, .string ⟨#[]⟩, .slice (some ⟨g, 0, none⟩) 4 4] 56 (0, 0)) ∧ Wi.AreIts w (Wi.Ran W.heap.size w) [Wi.nIt sid, Wi.nIt sq, Wi.nIt su, Wi.sIt PT] (some ⟨g, 0, none⟩) 0 | _ => True) (fun w => Below W.heap.size W w) [u29, u30, u31, u32, u33, u34, u35, u36, u37, u38, u39, u40, u41, u42, u43] (by kernel_rfl) (by kernel_rfl) (by kernel_rfl) rfl (Below.refl _ _).drew ?hzV ?hzS ?hzT
      case hzV =>
        intro i v w w' hC h hB
        exact match i, h with
        | 0, h => h
        | 1, h => h
        | 2, h => h
        | 3, h => h
        | 4, h => h
        | 5, h => h
        | 6, h => h
        | 7, h => h
        | 8, h => h
        | 9, h => h
        | 10, h => h
        | 11, h => h
        | 12, h => (let ⟨g, h1, h2⟩ := h; ⟨g, h1, Wi.AreIts.far h2 hB⟩)
        | 13, h => (let ⟨g, h1, h2⟩ := h; ⟨g, h1, Wi.AreIts.far h2 hB⟩)
        | 14, h => (let ⟨g2, g, h1, h2, h3, h4⟩ := h; ⟨g2, g, h1, h2, (hB.block _ (Array.getElem?_eq_some_iff.1 h3).1).trans h3, Wi.AreIts.far h4 hB⟩)
        | i + 15, h => trivial
      case hzS =>
        refine steps_cons (fun K' x hx w hC hd hK => ?_) ?_
        · obtain ⟨z0, z1, z2, z3, z4, z5, z6, z7, z8, z9, z10, z11, z12, z13, z14, rfl⟩ := len15 hx
          clear hd hx
          simp only [putAll, Act.put, List.setIfInBounds_toArray, List.set_cons_zero, List.set_cons_succ] at hK ⊢
          go_simp
          exact hK _ _ rfl hC (Below.refl _ _)
        refine steps_cons (fun K' x hx w hC hd hK => ?_) ?_
        · obtain ⟨z0, z1, z2, z3, z4, z5, z6, z7, z8, z9, z10, z11, z12, z13, z14, rfl⟩ := len15 hx
          clear hd hx
          simp only [putAll, Act.put, List.setIfInBounds_toArray, List.set_cons_zero, List.set_cons_succ] at hK ⊢
          go_simp
          exact hK _ _ rfl hC (Below.refl _ _)
        refine steps_cons (fun K' x hx w hC hd hK => ?_) ?_
        · obtain ⟨z0, z1, z2, z3, z4, z5, z6, z7, z8, z9, z10, z11, z12, z13, z14, rfl⟩ := len15 hx
          obtain rfl : z1 = _ := hd 1 (by kernel_rfl)
          clear hd hx
          simp only [putAll, Act.put, List.setIfInBounds_toArray, List.set_cons_zero, List.set_cons_succ] at hK ⊢
          obtain ⟨y0, y1, y2, y3, y4, y5, y6, y7, y8, _⟩ := rowc9 ((Below.block hC _ HBL.out).trans HBX.out)
          go_simp
          exact hK _ _ rfl hC (Below.refl _ _)
        refine steps_cons (fun K' x hx w hC hd hK => ?_) ?_
        · obtain ⟨z0, z1, z2, z3, z4, z5, z6, z7, z8, z9, z10, z11, z12, z13, z14, rfl⟩ := len15 hx
          obtain rfl : z2 = _ := hd 2 (by kernel_rfl)
          clear hd hx
          simp only [putAll, Act.put, List.setIfInBounds_toArray, List.set_cons_zero, List.set_cons_succ] at hK ⊢
          go_simp
          (go_at_call 18; (with_reducible refine (Wi.cnum_any _ _).mono ?_); rintro e w1 ⟨rfl, hb⟩; exact hK _ _ rfl (Below.trans hC (hb.mono (Below.size hC))) hb)
        refine steps_cons (fun K' x hx w hC hd hK => ?_) ?_
        · obtain ⟨z0, z1, z2, z3, z4, z5, z6, z7, z8, z9, z10, z11, z12, z13, z14, rfl⟩ := len15 hx
          clear hd hx
          simp only [putAll, Act.put, List.setIfInBounds_toArray, List.set_cons_zero, List.set_cons_succ] at hK ⊢
          go_simp
          exact hK _ _ rfl hC (Below.refl _ _)
        refine steps_cons (fun K' x hx w hC hd hK => ?_) ?_
        · obtain ⟨z0, z1, z2, z3, z4, z5, z6, z7, z8, z9, z10, z11, z12, z13, z14, rfl⟩ := len15 hx
          obtain rfl : z4 = _ := hd 4 (by kernel_rfl)
          clear hd hx
          simp only [putAll, Act.put, List.setIfInBounds_toArray, List.set_cons_zero, List.set_cons_succ] at hK ⊢
          obtain ⟨y0, y1, y2, y3, y4, y5, y6, y7, y8, _⟩ := rowc9 ((Below.block hC _ HBL.out).trans HBX.out)
          go_simp
          exact hK _ _ rfl hC (Below.refl _ _)
        refine steps_cons (fun K' x hx w hC hd hK => ?_) ?_
        · obtain ⟨z0, z1, z2, z3, z4, z5, z6, z7, z8, z9, z10, z11, z12, z13, z14, rfl⟩ := len15 hx
          obtain rfl : z5 = _ := hd 5 (by kernel_rfl)
          clear hd hx
          simp only [putAll, Act.put, List.setIfInBounds_toArray, List.set_cons_zero, List.set_cons_succ] at hK ⊢
          go_simp
          (go_at_call 18; (with_reducible refine (Wi.cnum_any _ _).mono ?_); rintro e w1 ⟨rfl, hb⟩; exact hK _ _ rfl (Below.trans hC (hb.mono (Below.size hC))) hb)
        refine steps_cons (fun K' x hx w hC hd hK => ?_) ?_
        · obtain ⟨z0, z1, z2, z3, z4, z5, z6, z7, z8, z9, z10, z11, z12, z13, z14, rfl⟩ := len15 hx
          clear hd hx
          simp only [putAll, Act.put, List.setIfInBounds_toArray, List.set_cons_zero, List.set_cons_succ] at hK ⊢
          go_simp
          exact hK _ _ rfl hC (Below.refl _ _)
        refine steps_cons (fun K' x hx w hC hd hK => ?_) ?_
        · obtain ⟨z0, z1, z2, z3, z4, z5, z6, z7, z8, z9, z10, z11, z12, z13, z14, rfl⟩ := len15 hx
          obtain rfl : z7 = _ := hd 7 (by kernel_rfl)
          clear hd hx
          simp only [putAll, Act.put, List.setIfInBounds_toArray, List.set_cons_zero, List.set_cons_succ] at hK ⊢
          obtain ⟨y0, y1, y2, y3, y4, y5, y6, y7, y8, _⟩ := rowc9 ((Below.block hC _ HBL.out).trans HBX.out)
          go_simp
          exact hK _ _ rfl hC (Below.refl _ _)
        refine steps_cons (fun K' x hx w hC hd hK => ?_) ?_
        · obtain ⟨z0, z1, z2, z3, z4, z5, z6, z7, z8, z9, z10, z11, z12, z13, z14, rfl⟩ := len15 hx
          obtain rfl : z8 = _ := hd 8 (by kernel_rfl)
          clear hd hx
          simp only [putAll, Act.put, List.setIfInBounds_toArray, List.set_cons_zero, List.set_cons_succ] at hK ⊢
          go_simp
          (go_at_call 18; (with_reducible refine (Wi.cnum_any _ _).mono ?_); rintro e w1 ⟨rfl, hb⟩; exact hK _ _ rfl (Below.trans hC (hb.mono (Below.size hC))) hb)
        refine steps_cons (fun K' x hx w hC hd hK => ?_) ?_
        · obtain ⟨z0, z1, z2, z3, z4, z5, z6, z7, z8, z9, z10, z11, z12, z13, z14, rfl⟩ := len15 hx
          clear hd hx
          simp only [putAll, Act.put, List.setIfInBounds_toArray, List.set_cons_zero, List.set_cons_succ] at hK ⊢
          go_simp
          exact hK _ _ rfl hC (Below.refl _ _)
        refine steps_cons (fun K' x hx w hC hd hK => ?_) ?_
        · obtain ⟨z0, z1, z2, z3, z4, z5, z6, z7, z8, z9, z10, z11, z12, z13, z14, rfl⟩ := len15 hx
          obtain rfl : z10 = _ := hd 10 (by kernel_rfl)
          clear hd hx
          simp only [putAll, Act.put, List.setIfInBounds_toArray, List.set_cons_zero, List.set_cons_succ] at hK ⊢
          go_simp
          (go_at_call 19; (with_reducible refine (Wi.ctxt_any _ _).mono ?_); rintro e w1 ⟨rfl, hb⟩; exact hK _ _ rfl (Below.trans hC (hb.mono (Below.size hC))) hb)
        refine steps_cons (fun K' x hx w hC hd hK => ?_) ?_
        · obtain ⟨z0, z1, z2, z3, z4, z5, z6, z7, z8, z9, z10, z11, z12, z13, z14, rfl⟩ := len15 hx
          obtain rfl : z3 = _ := hd 3 (by kernel_rfl)
          obtain rfl : z6 = _ := hd 6 (by kernel_rfl)
          obtain rfl : z9 = _ := hd 9 (by kernel_rfl)
          obtain rfl : z11 = _ := hd 11 (by kernel_rfl)
          clear hd hx
          simp only [putAll, Act.put, List.setIfInBounds_toArray, List.set_cons_zero, List.set_cons_succ] at hK ⊢
          go_simp
          refine hK _ _ ⟨w.heap.size, rfl, ?_⟩ (Below.alloc hC (Below.size hC) _) ((Below.refl _ w).alloc (Nat.le_refl _) _)
          exact are4 ⟨Below.size hC, by simp⟩ (heap_alloc_new w _) (Wi.isIt_nIt _ _ _ HN1.out) (Wi.isIt_nIt _ _ _ HN2.out) (Wi.isIt_nIt _ _ _ HN3.out) (Wi.isIt_sIt _ _ _ HPT.out)
        refine steps_cons (fun K' x hx w hC hd hK => ?_) ?_
        · obtain ⟨z0, z1, z2, z3, z4, z5, z6, z7, z8, z9, z10, z11, z12, z13, z14, rfl⟩ := len15 hx
          obtain ⟨g, rfl, hal⟩ := hd 12 (by kernel_rfl)
          clear hd hx
          simp only [putAll, Act.put, List.setIfInBounds_toArray, List.set_cons_zero, List.set_cons_succ] at hK ⊢
          go_simp
          (go_at_call 17; (with_reducible refine (Wi.clist_any _ _ _ _).mono ?_); rintro e w1 ⟨rfl, hb⟩; exact hK _ _ ⟨g, rfl, Wi.AreIts.far hal hb⟩ (Below.trans hC (hb.mono (Below.size hC))) hb)
        refine steps_cons (fun K' x hx w hC hd hK => ?_) ?_
        · obtain ⟨z0, z1, z2, z3, z4, z5, z6, z7, z8, z9, z10, z11, z12, z13, z14, rfl⟩ := len15 hx
          obtain ⟨g, rfl, hal⟩ := hd 13 (by kernel_rfl)
          clear hd hx
          simp only [putAll, Act.put, List.setIfInBounds_toArray, List.set_cons_zero, List.set_cons_succ] at hK ⊢
          go_simp
          exact hK _ _ ⟨w.heap.size, g, rfl, Below.size hC, heap_alloc_new w _, Wi.AreIts.far hal ((Below.refl _ w).alloc (Nat.le_refl _) _)⟩ (Below.alloc hC (Below.size hC) _) ((Below.refl _ w).alloc (Nat.le_refl _) _)
        exact trivial
      case hzT =>
        intro x hx w hC hd
        obtain ⟨z0, z1, z2, z3, z4, z5, z6, z7, z8, z9, z10, z11, z12, z13, z14, rfl⟩ := len15 hx
        obtain ⟨g2, g, e14, hg2, hrow, hal⟩ := hd 14 (by omega)
        have hz0 : z0 = _ := hd 0 (by omega)
        replace hz0 := hz0.symm
        subst hz0
        change z14 = _ at e14
        subst e14
        clear hd hx
        simp only [putAll, Act.put, List.setIfInBounds_toArray, List.set_cons_zero, List.set_cons_succ]
        have hBW := HWB.out.trans (Below.mono hC HWB.out.size)
        obtain ⟨xs, ho, hI⟩ := HO.out.below hBW
        obtain ⟨xs0, ho0, _⟩ := HO.out
        have HOV := Lib.hid fun q hq => (Wi.own_lt ho0 q hq)
        obtain ⟨r0, r1, r2, r3, _⟩ := Wi.row4 hrow
        have HWX := Lib.hid hBW
        have HII := Lib.hid hI
        have HOO := Lib.hid ho
        have HAL := Lib.hid hal
        have HG2 := Lib.hid hg2
        have HSW := Lib.hid HWB.out.size
        clear hBW hI ho hal hg2 ho0 hC hrow
        show wpList Try.prog _ _ (_ :: _ :: []) _ _
        go_wp2_with (at_builtin; (refine Wi.wp_app4 rfl (.tmp 29) (.tmp 43) rfl B0 vv TJ.length xs rfl HOO.out ⟨g2, 0, none⟩ 1 rfl (.int .i64 3) (.int .i64 0) (.string ⟨#[]⟩) (.slice (some ⟨g, 0, none⟩) 4 4) (by go_simp) (by go_simp) (by go_simp) (by go_simp) rfl rfl rfl rfl ?hln ?hbs ?_))
        case hln => have := HFL.out; omega
        case hbs => have := HWX.out.size; have := HSZ.out; have := HB0E.out; omega
        intro v2 w3 p1 p2 p3
        have A1 := Lib.hid (Wi.ItRow.snoc (x := .mk 3 0 ⟨#[]⟩ [Wi.nIt sid, Wi.nIt sq, Wi.nIt su, Wi.sIt PT]) HOO.out HII.out ⟨some ⟨g, 0, none⟩, 4, rfl, ⟨by omega, by omega⟩, ⟨by omega, by omega⟩, by simp [Wi.zero_size], by simp [maxLen], Wi.AreIts.mono (fun q hq => ⟨⟨Nat.le_trans HSZ0.out (Nat.le_trans HSW.out hq.1), hq.2⟩, fun e => by have := (HOV.out q e).2; have := HSW.out; have := hq.1; omega⟩) _ HAL.out⟩ (by have := HWX.out.size; have := HSZ0.out; omega) p1 p2 p3)
        have B1 := Lib.hid ((HBW.out.trans (HWX.out.mono HSZ.out)).grown p2 (by have := HWX.out.size; have := HSZ.out; omega) (fun q hq => by have := (HOV.out q hq).1; have := HB0E.out; omega))
        clear p1 p2 p3 r0 r1 r2 r3 HOO HII HAL HOV HWX
        go_wp2_with fail
        go_roundw
        case rel => exact ⟨v2, j + 1, rfl, Nat.succ_le_of_lt HLT.out, by go_num, by rw [HST.out, HIT.out]; exact A1.out, B1.out⟩
        case measure => exact meas_lt HLT.out
    · go_wp2_with fail
      have hTJ : TS.take j = TS := List.take_of_length_le (by rw [HTS.out, List.length_map]; have := HN.out; omega)
      have hir := HO.out
      rw [hTJ] at hir
      obtain ⟨VA, VC, rfl, hal⟩ := hir.form
      have hTSn : TS.length = n := by rw [HTS.out, List.length_map, HN.out]
      rw [hTSn]
      have HWW := HBW
      have HAL := Lib.hid hal
      have HXW := Lib.hid ((HBW.out.block b HBLT.out).trans HBX0.out)
      have HBL := Lib.hid (show b < wr.heap.size by have := HBW.out.size; have := HBLT.out; omega)
      have HLT3 := Lib.hid (show TS.length ≤ maxLen by rw [hTSn]; simp only [maxLen]; omega)
      obtain ⟨W, hW⟩ : ∃ W, W = wr := ⟨_, rfl⟩
      generalize hck : T.clk = ck at *
      generalize hls : T.lst = ls at *
      obtain ⟨EE, hEE⟩ : ∃ EE, EE = Wi.errOf (.mk 3 0 ⟨#[]⟩ [Wi.nIt ck, Wi.nIt (ls + 1), .mk 3 0 ⟨#[]⟩ TS]) := ⟨_, rfl⟩
      have HENC : Hid (∀ (X : World) (g : Nat), Below wr.heap.size wr X → wr.heap.size ≤ g → X.heap[g]? = some (.cells #[.int .i64 1, .int .i64 ck, .string ⟨#[]⟩, .slice none 0 0, .int .i64 1, .int .i64 (ls + 1), .string ⟨#[]⟩, .slice none 0 0, .int .i64 3, .int .i64 0, .string ⟨#[]⟩, .slice VA n VC] 56 (0, 0)) → Calls Try.prog 20 #[.slice (some ⟨g, 0, none⟩) 3 3] X fun e Y => e = .returned (.tuple #[.string TX, .int .i64 EE]) ∧ Below X.heap.size X Y) := Lib.hid fun X g hX hg hrow => by
        have hgl := (Array.getElem?_eq_some_iff.1 hrow).1
        refine (Wi.encoding_any [Wi.nIt ck, Wi.nIt (ls + 1), .mk 3 0 ⟨#[]⟩ TS] _ 3 3 X rfl (by simp [maxLen]) (Wi.are3 hgl hrow (Wi.isIt_nIt _ _ _ HRG.out.1) (Wi.isIt_nIt _ _ _ HRG.out.2) ?_)).mono ?_
        · rw [← hTSn]
          exact Wi.isIt_row _ _ TS VA VC HLT3.out (Wi.AreIts.mono (fun q hq => hq.2) _ (Wi.AreIts.far HAL.out hX))
        · rintro e Y ⟨he, hb⟩
          refine ⟨?_, hb⟩
          rw [he, HSV.out, hEE]
      clear hal hir hTJ hTSn hck hls hEE
      subst hW
      rw [HV.out] at HXW
      refine wp_region_mono2 19 [47, 48, 49, 50, 51, 52, 53, 54, 55, 56, 57, 58, 59, 60, 61, 46, 62, 63, 8] (fun i v w => match i with | 0 => v = .pointer (some ⟨b, 0, none⟩) | 1 => v = .pointer (some ⟨b, 0, none⟩) | 2 => v = .pointer (some ⟨b, 0, none⟩) | 3 => v = .int .i64 ck | 4 => v = .agg #[.int .i64 1, .int .i64 ck, .string ⟨#[]⟩, .slice none 0 0] | 5 => v = .pointer (some ⟨b, 0, none⟩) | 6 => v = .pointer (some ⟨b, 0, none⟩) | 7 => v = .pointer (some ⟨b, 1, none⟩) | 8 => v = .int .i64 ls | 9 => v = .int .i64 (ls + 1) | 10 => v = .agg #[.int .i64 1, .int .i64 (ls + 1), .string ⟨#[]⟩, .slice none 0 0] | 11 => v = .slice VA n VC | 12 => v = .agg #[.int .i64 3, .int .i64 0, .string ⟨#[]⟩, .slice VA n VC] | 13 => ∃ g, v = .slice (some ⟨g, 0, none⟩) 3 3 ∧ W.heap.size ≤ g ∧ w.heap[g]? = some (.cells #[.int .i64 1, .int .i64 ck, .string ⟨#[]⟩, .slice none 0 0, .int .i64 1, .int .i64 (ls + 1), .string ⟨#[]⟩, .slice none 0 0, .int .i64 3, .int .i64 0, .string ⟨#[]⟩, .slice VA n VC] 56 (0, 0)) | 14 => v = .tuple #[.string TX, .int .i64 EE] | 15 => v = .tuple #[.string TX, .int .i64 EE] | 16 => v = .string TX | 17 => v = .int .i64 EE | 18 => v = .string TX | _ => True) (fun w => Below W.heap.size W w) [undef, undef, undef, undef, undef, undef, undef, undef, undef, undef, undef, undef, undef, undef, undef, undef, undef, undef, undef] (by kernel_rfl) (by kernel_rfl) (by kernel_rfl) rfl (Below.refl _ _).drew ?hzV ?hzS ?hzT
      case hzV =>
        intro i v w w' hC h hB
        exact match i, h with
        | 0, h => h
        | 1, h => h
        | 2, h => h
        | 3, h => h
        | 4, h => h
        | 5, h => h
        | 6, h => h
        | 7, h => h
        | 8, h => h
        | 9, h => h
        | 10, h => h
        | 11, h => h
        | 12, h => h
        | 13, h => (let ⟨g, h1, h2, h3⟩ := h; ⟨g, h1, h2, (hB.block _ (Array.getElem?_eq_some_iff.1 h3).1).trans h3⟩)
        | 14, h => h
        | 15, h => h
        | 16, h => h
        | 17, h => h
        | 18, h => h
        | i + 19, h => trivial
      case hzS =>
        refine steps_cons (fun K' x hx w hC hd hK => ?_) ?_
        · obtain ⟨z0, z1, z2, z3, z4, z5, z6, z7, z8, z9, z10, z11, z12, z13, z14, z15, z16, z17, z18, rfl⟩ := len19 hx
          clear hd hx
          simp only [putAll, Act.put, List.setIfInBounds_toArray, List.set_cons_zero, List.set_cons_succ] at hK ⊢
          go_simp
          exact hK _ _ rfl hC (Below.refl _ _)
        refine steps_cons (fun K' x hx w hC hd hK => ?_) ?_
        · obtain ⟨z0, z1, z2, z3, z4, z5, z6, z7, z8, z9, z10, z11, z12, z13, z14, z15, z16, z17, z18, rfl⟩ := len19 hx
          obtain rfl : z0 = _ := hd 0 (by kernel_rfl)
          clear hd hx
          simp only [putAll, Act.put, List.setIfInBounds_toArray, List.set_cons_zero, List.set_cons_succ] at hK ⊢
          go_simp
          exact hK _ _ rfl hC (Below.refl _ _)
        refine steps_cons (fun K' x hx w hC hd hK => ?_) ?_
        · obtain ⟨z0, z1, z2, z3, z4, z5, z6, z7, z8, z9, z10, z11, z12, z13, z14, z15, z16, z17, z18, rfl⟩ := len19 hx
          obtain rfl : z1 = _ := hd 1 (by kernel_rfl)
          clear hd hx
          simp only [putAll, Act.put, List.setIfInBounds_toArray, List.set_cons_zero, List.set_cons_succ] at hK ⊢
          go_simp
          exact hK _ _ rfl hC (Below.refl _ _)
        refine steps_cons (fun K' x hx w hC hd hK => ?_) ?_
        · obtain ⟨z0, z1, z2, z3, z4, z5, z6, z7, z8, z9, z10, z11, z12, z13, z14, z15, z16, z17, z18, rfl⟩ := len19 hx
          obtain rfl : z2 = _ := hd 2 (by kernel_rfl)
          clear hd hx
          simp only [putAll, Act.put, List.setIfInBounds_toArray, List.set_cons_zero, List.set_cons_succ] at hK ⊢
          obtain ⟨y0, y1, y2, _⟩ := tcells ((Below.block hC _ HBL.out).trans HXW.out)
          go_simp
          exact hK _ _ rfl hC (Below.refl _ _)
        refine steps_cons (fun K' x hx w hC hd hK => ?_) ?_
        · obtain ⟨z0, z1, z2, z3, z4, z5, z6, z7, z8, z9, z10, z11, z12, z13, z14, z15, z16, z17, z18, rfl⟩ := len19 hx
          obtain rfl : z3 = _ := hd 3 (by kernel_rfl)
          clear hd hx
          simp only [putAll, Act.put, List.setIfInBounds_toArray, List.set_cons_zero, List.set_cons_succ] at hK ⊢
          go_simp
          (go_at_call 18; (with_reducible refine (Wi.cnum_any _ _).mono ?_); rintro e w1 ⟨rfl, hb⟩; exact hK _ _ rfl (Below.trans hC (hb.mono (Below.size hC))) hb)
        refine steps_cons (fun K' x hx w hC hd hK => ?_) ?_
        · obtain ⟨z0, z1, z2, z3, z4, z5, z6, z7, z8, z9, z10, z11, z12, z13, z14, z15, z16, z17, z18, rfl⟩ := len19 hx
          clear hd hx
          simp only [putAll, Act.put, List.setIfInBounds_toArray, List.set_cons_zero, List.set_cons_succ] at hK ⊢
          go_simp
          exact hK _ _ rfl hC (Below.refl _ _)
        refine steps_cons (fun K' x hx w hC hd hK => ?_) ?_
        · obtain ⟨z0, z1, z2, z3, z4, z5, z6, z7, z8, z9, z10, z11, z12, z13, z14, z15, z16, z17, z18, rfl⟩ := len19 hx
          obtain rfl : z5 = _ := hd 5 (by kernel_rfl)
          clear hd hx
          simp only [putAll, Act.put, List.setIfInBounds_toArray, List.set_cons_zero, List.set_cons_succ] at hK ⊢
          go_simp
          exact hK _ _ rfl hC (Below.refl _ _)
        refine steps_cons (fun K' x hx w hC hd hK => ?_) ?_
        · obtain ⟨z0, z1, z2, z3, z4, z5, z6, z7, z8, z9, z10, z11, z12, z13, z14, z15, z16, z17, z18, rfl⟩ := len19 hx
          obtain rfl : z6 = _ := hd 6 (by kernel_rfl)
          clear hd hx
          simp only [putAll, Act.put, List.setIfInBounds_toArray, List.set_cons_zero, List.set_cons_succ] at hK ⊢
          go_simp
          exact hK _ _ rfl hC (Below.refl _ _)
        refine steps_cons (fun K' x hx w hC hd hK => ?_) ?_
        · obtain ⟨z0, z1, z2, z3, z4, z5, z6, z7, z8, z9, z10, z11, z12, z13, z14, z15, z16, z17, z18, rfl⟩ := len19 hx
          obtain rfl : z7 = _ := hd 7 (by kernel_rfl)
          clear hd hx
          simp only [putAll, Act.put, List.setIfInBounds_toArray, List.set_cons_zero, List.set_cons_succ] at hK ⊢
          obtain ⟨y0, y1, y2, _⟩ := tcells ((Below.block hC _ HBL.out).trans HXW.out)
          go_simp
          exact hK _ _ rfl hC (Below.refl _ _)
        refine steps_cons (fun K' x hx w hC hd hK => ?_) ?_
        · obtain ⟨z0, z1, z2, z3, z4, z5, z6, z7, z8, z9, z10, z11, z12, z13, z14, z15, z16, z17, z18, rfl⟩ := len19 hx
          obtain rfl : z8 = _ := hd 8 (by kernel_rfl)
          clear hd hx
          simp only [putAll, Act.put, List.setIfInBounds_toArray, List.set_cons_zero, List.set_cons_succ] at hK ⊢
          obtain ⟨hls1, hls2⟩ := HLS.out
          go_simp
          exact hK _ _ (by congr 1; exact IntWalk.i64_in _ ⟨by omega, by omega⟩) hC (Below.refl _ _)
        refine steps_cons (fun K' x hx w hC hd hK => ?_) ?_
        · obtain ⟨z0, z1, z2, z3, z4, z5, z6, z7, z8, z9, z10, z11, z12, z13, z14, z15, z16, z17, z18, rfl⟩ := len19 hx
          obtain rfl : z9 = _ := hd 9 (by kernel_rfl)
          clear hd hx
          simp only [putAll, Act.put, List.setIfInBounds_toArray, List.set_cons_zero, List.set_cons_succ] at hK ⊢
          go_simp
          (go_at_call 18; (with_reducible refine (Wi.cnum_any _ _).mono ?_); rintro e w1 ⟨rfl, hb⟩; exact hK _ _ rfl (Below.trans hC (hb.mono (Below.size hC))) hb)
        refine steps_cons (fun K' x hx w hC hd hK => ?_) ?_
        · obtain ⟨z0, z1, z2, z3, z4, z5, z6, z7, z8, z9, z10, z11, z12, z13, z14, z15, z16, z17, z18, rfl⟩ := len19 hx
          clear hd hx
          simp only [putAll, Act.put, List.setIfInBounds_toArray, List.set_cons_zero, List.set_cons_succ] at hK ⊢
          go_simp
          exact hK _ _ rfl hC (Below.refl _ _)
        refine steps_cons (fun K' x hx w hC hd hK => ?_) ?_
        · obtain ⟨z0, z1, z2, z3, z4, z5, z6, z7, z8, z9, z10, z11, z12, z13, z14, z15, z16, z17, z18, rfl⟩ := len19 hx
          obtain rfl : z11 = _ := hd 11 (by kernel_rfl)
          clear hd hx
          simp only [putAll, Act.put, List.setIfInBounds_toArray, List.set_cons_zero, List.set_cons_succ] at hK ⊢
          go_simp
          (go_at_call 17; (with_reducible refine (Wi.clist_any _ _ _ _).mono ?_); rintro e w1 ⟨rfl, hb⟩; exact hK _ _ rfl (Below.trans hC (hb.mono (Below.size hC))) hb)
        refine steps_cons (fun K' x hx w hC hd hK => ?_) ?_
        · obtain ⟨z0, z1, z2, z3, z4, z5, z6, z7, z8, z9, z10, z11, z12, z13, z14, z15, z16, z17, z18, rfl⟩ := len19 hx
          obtain rfl : z4 = _ := hd 4 (by kernel_rfl)
          obtain rfl : z10 = _ := hd 10 (by kernel_rfl)
          obtain rfl : z12 = _ := hd 12 (by kernel_rfl)
          clear hd hx
          simp only [putAll, Act.put, List.setIfInBounds_toArray, List.set_cons_zero, List.set_cons_succ] at hK ⊢
          go_simp
          exact hK _ _ ⟨w.heap.size, rfl, Below.size hC, heap_alloc_new w _⟩ (Below.alloc hC (Below.size hC) _) ((Below.refl _ w).alloc (Nat.le_refl _) _)
        refine steps_cons (fun K' x hx w hC hd hK => ?_) ?_
        · obtain ⟨z0, z1, z2, z3, z4, z5, z6, z7, z8, z9, z10, z11, z12, z13, z14, z15, z16, z17, z18, rfl⟩ := len19 hx
          obtain ⟨g, rfl, hg, hrow⟩ := hd 13 (by kernel_rfl)
          clear hd hx
          simp only [putAll, Act.put, List.setIfInBounds_toArray, List.set_cons_zero, List.set_cons_succ] at hK ⊢
          go_simp
          (go_at_call 20; (refine (HENC.out w g hC hg hrow).mono ?_); rintro e w1 ⟨rfl, hb⟩; exact hK _ _ rfl (Below.trans hC (hb.mono (Below.size hC))) hb)
        refine steps_cons (fun K' x hx w hC hd hK => ?_) ?_
        · obtain ⟨z0, z1, z2, z3, z4, z5, z6, z7, z8, z9, z10, z11, z12, z13, z14, z15, z16, z17, z18, rfl⟩ := len19 hx
          obtain rfl : z14 = _ := hd 14 (by kernel_rfl)
          clear hd hx
          simp only [putAll, Act.put, List.setIfInBounds_toArray, List.set_cons_zero, List.set_cons_succ] at hK ⊢
          go_simp
          exact hK _ _ rfl hC (Below.refl _ _)
        refine steps_cons (fun K' x hx w hC hd hK => ?_) ?_
        · obtain ⟨z0, z1, z2, z3, z4, z5, z6, z7, z8, z9, z10, z11, z12, z13, z14, z15, z16, z17, z18, rfl⟩ := len19 hx
          obtain rfl : z15 = _ := hd 15 (by kernel_rfl)
          clear hd hx
          simp only [putAll, Act.put, List.setIfInBounds_toArray, List.set_cons_zero, List.set_cons_succ] at hK ⊢
          go_simp
          exact hK _ _ rfl hC (Below.refl _ _)
        refine steps_cons (fun K' x hx w hC hd hK => ?_) ?_
        · obtain ⟨z0, z1, z2, z3, z4, z5, z6, z7, z8, z9, z10, z11, z12, z13, z14, z15, z16, z17, z18, rfl⟩ := len19 hx
          obtain rfl : z15 = _ := hd 15 (by kernel_rfl)
          clear hd hx
          simp only [putAll, Act.put, List.setIfInBounds_toArray, List.set_cons_zero, List.set_cons_succ] at hK ⊢
          go_simp
          exact hK _ _ rfl hC (Below.refl _ _)
        refine steps_cons (fun K' x hx w hC hd hK => ?_) ?_
        · obtain ⟨z0, z1, z2, z3, z4, z5, z6, z7, z8, z9, z10, z11, z12, z13, z14, z15, z16, z17, z18, rfl⟩ := len19 hx
          obtain rfl : z16 = _ := hd 16 (by kernel_rfl)
          clear hd hx
          simp only [putAll, Act.put, List.setIfInBounds_toArray, List.set_cons_zero, List.set_cons_succ] at hK ⊢
          go_simp
          exact hK _ _ rfl hC (Below.refl _ _)
        exact trivial
      case hzT =>
        intro x hx w hC hd
        obtain ⟨z0, z1, z2, z3, z4, z5, z6, z7, z8, z9, z10, z11, z12, z13, z14, z15, z16, z17, z18, rfl⟩ := len19 hx
        have hz17 : z17 = _ := hd 17 (by omega)
        have hz18 : z18 = _ := hd 18 (by omega)
        subst hz17 hz18
        clear hd hx
        simp only [putAll, Act.put, List.setIfInBounds_toArray, List.set_cons_zero, List.set_cons_succ]
        have HC := Lib.hid hC
        clear hC
        show wpList Try.prog _ _ (_ :: []) _ _
        go_wp2_with fail
        go_ret
        exact ⟨rfl, HWW.out.trans (HC.out.mono HWW.out.size)⟩
end Go.Proofs.Ytphclpjekpdifaa
