import Derived.Test.YtipclhklkngamaaNs
namespace Go.Proofs.Ytipclhklkngamaa
open Go.RowKit
set_option linter.unusedVariables false

theorem NK.mono {W w : World} {b : Nat} {N : Net} {gv : Value} {q : List Let} {bm n n' : Nat} {Q : List Let} (h : NK W w b N gv q bm n Q) (hn : n ≤ n') : NK W w b N gv q bm n' Q := ⟨h.net, h.row, h.map.mono hn, h.low⟩
theorem count_erase {q : List Let} {k : Nat} {l : Let} (h : q[k]? = some l) : q.count l = (q.eraseIdx k).count l + 1 ∧ ∀ x, x ≠ l → (q.eraseIdx k).count x = q.count x := by
  obtain ⟨hk, hl⟩ := List.getElem?_eq_some_iff.1 h
  have e : q = q.take k ++ l :: q.drop (k + 1) := by
    rw [← hl, ← List.drop_eq_getElem_cons hk, List.take_append_drop]
  rw [List.eraseIdx_eq_take_drop_succ]
  constructor
  · conv => lhs; rw [e]
    rw [List.count_append, List.count_append, List.count_cons_self]; omega
  · intro x hx
    conv => rhs; rw [e]
    rw [List.count_append, List.count_append, List.count_cons_of_ne (Ne.symm hx)]
theorem count_tail {q : List Let} {j : Nat} {l : Let} (h : q[j]? = some l) : (q.drop j).count l = (q.drop (j + 1)).count l + 1 ∧ ∀ x, x ≠ l → (q.drop (j + 1)).count x = (q.drop j).count x := by
  obtain ⟨hk, hl⟩ := List.getElem?_eq_some_iff.1 h
  rw [List.drop_eq_getElem_cons hk, hl]
  exact ⟨by rw [List.count_cons_self], fun x hx => by rw [List.count_cons_of_ne (Ne.symm hx)]⟩
set_option maxHeartbeats 80000000 in
set_option maxRecDepth 100000 in
theorem law_keeps (v : Value) (xs : List NAct) (w : World) (hx : ActsAt w v xs w.heap.size) :
    Calls Try.prog 4 #[v] w (RetBelow (.bool true) w) := by
  obtain ⟨A, c, rfl, l1, l2⟩ := hx.form
  have HX := Lib.hid hx
  have HAW := Lib.hid (awake_any w)
  clear hx
  go_enter Try.func4, Try.ntmps4
  go_wp2_with fail
  refine HAW.out.mono ?_
  rintro e w1 ⟨rfl, hb1⟩
  have HB1 := Lib.hid hb1
  clear hb1
  go_wp2_with fail
  have C := nc_new (W := w) HB1.out
  refine C.mono ?_
  clear C
  rintro e w2 ⟨rfl, hn, hb2⟩
  have HN := Lib.hid (NK.start hn)
  clear hn hb2
  generalize w1.heap.size = b at *
  have hmm := @run_makeMap Try.prog
  go_wp2_with fail
  clear hmm
  generalize w2.heap.size = bm at *
  generalize w2.alloc (.map #[] 0) = w3 at *
  go_loopw [5] (fun iV wr => ∃ (i : Nat) (N : Net), iV = .int .i64 (i : Nat) ∧ i ≤ 500 ∧ Hid (∀ l ∈ N.q, Good l) ∧ Hid (NK w wr b N (.slice none 0 0) [] bm i N.q)) (fun iV _ => 500 - (numOf iV).toNat)
  case atStart => exact ⟨0, _, rfl, by omega, Lib.hid (fun l h => by cases h), HN⟩
  case round =>
    obtain ⟨i, N, rfl, hi, hgd, hn⟩ := hrel
    clear HN
    obtain ⟨wo, hwo⟩ : ∃ q, q = wr := ⟨_, rfl⟩
    subst hwo
    by_cases hil : i < xs.length ∧ i < 500
    · obtain ⟨hil, hi5⟩ := hil
      obtain ⟨y, hy⟩ : ∃ y, xs[i]? = some y := ⟨_, List.getElem?_eq_getElem hil⟩
      obtain ⟨k, off, rfl, hk, c0, c1, c2, c3, c4, hok⟩ := HX.out.one hn.out.below hy
      have HCL : Hid (∀ W' : World, Below w.heap.size w W' → W'.cell? ⟨k, off + i * 5, none⟩ = some (.int .i64 y.kind) ∧ W'.cell? ⟨k, off + i * 5 + 1, none⟩ = some (.int .i64 y.n) ∧ W'.cell? ⟨k, off + i * 5 + 2, none⟩ = some (.int .i64 y.l.f) ∧ W'.cell? ⟨k, off + i * 5 + 3, none⟩ = some (.int .i64 y.l.t) ∧ W'.cell? ⟨k, off + i * 5 + 4, none⟩ = some (.string y.l.b)) := Lib.hid fun W' hb' => by
        have e := (hb'.block k hk).trans (hn.out.below.block k hk).symm
        exact ⟨(World.cell?_of_block e).trans c0, (World.cell?_of_block e).trans c1, (World.cell?_of_block e).trans c2, (World.cell?_of_block e).trans c3, (World.cell?_of_block e).trans c4⟩
      have hlen : (i : Int) < (xs.length : Int) := by omega
      have hi500 : (i : Int) < 500 := by omega
      obtain ⟨yk, yn, yl⟩ := y
      have HOK := Lib.hid hok
      have n0 := hok.n0
      have n1 := hok.n1
      have k0 := hok.k0
      have k1 := hok.k1
      dsimp only at *
      have HGL : Hid (Good yl) := Lib.hid ⟨hok.l, by
        have hb : yl.b.data.toList.length ≤ 140737488351232 := hok.b
        have h2 : yl.b.size = yl.b.data.toList.length := rfl
        rw [h2]; simp only [maxLen]; omega⟩
      have HQ := Lib.hid hn.out.net.ok
      obtain ⟨m, hm⟩ : ∃ m, m = N.q.length := ⟨_, rfl⟩
      have HM := Lib.hid hm
      have hml : (m : Int) ≤ 400 := by have := HQ.out.many; omega
      clear hok hy c0 c1 c2 c3 c4 hm
      have HL : Hid (Calls Try.prog 20 #[.pointer (some ⟨b, 0, none⟩)] wo fun e w' => ∃ A c, e = .returned (.slice A m c) ∧ NK w w' b N (.slice A m c) N.q bm i N.q) := Lib.hid ((nk_way hn.out).mono fun e w' ⟨A, m', c, q1, q2, q3⟩ => ⟨A, c, by rw [q1, q2, HM.out], by rw [q2] at q3; rw [HM.out]; exact q3⟩)
      clear hn
      have hat3 : yn < 0 ∨ (0 ≤ yn ∧ yn < (m : Int)) ∨ (0 ≤ yn ∧ (m : Int) ≤ yn) := by omega
      by_cases h0 : yk = 0
      · subst h0
        by_cases hyes : Net.okL yl = true ∧ m < 400
        · obtain ⟨ho, hful⟩ := hyes
          have hss := Net.send_yes (N := N) ho (by rw [← HM.out]; omega)
          have HSD : Hid (∀ w4 gv, NK w w4 b N gv N.q bm i N.q → Calls Try.prog 10 #[.pointer (some ⟨b, 0, none⟩), .agg #[.int .i64 yl.f, .int .i64 yl.t, .string yl.b]] w4 fun e w' => e = .returned (.int .i64 0) ∧ NK w w' b ⟨N.q ++ [yl], N.s⟩ gv N.q bm i N.q) := Lib.hid fun w4 gv h => by
            have C := nk_send h yl HOK.out.l
            rw [hss] at C
            exact C
          have HGD : Hid (∀ l ∈ N.q ++ [yl], Good l) := Lib.hid fun l hl => by
            rcases List.mem_append.1 hl with h | h
            · exact hgd.out l h
            · rw [List.mem_singleton.1 h]; exact HGL.out
          have HCNT : Hid ((N.q ++ [yl]).count yl = N.q.count yl + 1 ∧ ∀ x, x ≠ yl → (N.q ++ [yl]).count x = N.q.count x) := Lib.hid ⟨by simp, fun x hx => by simp [List.count_append, Ne.symm hx]⟩
          have HCB : Hid ((N.q.count yl : Int) ≤ 100000) := Lib.hid (by have := List.count_le_length (a := yl) (l := N.q); have := HQ.out.many; omega)
          clear hss ho hful
          rcases hat3 with ⟨t0⟩ | ⟨t0, t1⟩ | ⟨t0, t1⟩
          all_goals
            go_wp2_with fail
            refine HL.out.mono ?_
            rintro e w3 ⟨A3, c3, rfl, h3⟩
            have HN3 := Lib.hid h3
            obtain ⟨d0, d1, d2, d3, d4⟩ := HCL.out _ h3.below
            clear h3
            go_wp2_with fail
            refine (HSD.out _ _ HN3.out).mono ?_
            clear d0 d1 d2 d3 d4
            rintro e w4 ⟨rfl, h4⟩
            have HN4 := Lib.hid h4
            obtain ⟨d0, d1, d2, d3, d4⟩ := HCL.out _ h4.below
            clear h4
            go_wp2_with fail
            obtain ⟨v0, st, W1, r1, r2, r3, r4, r5, r6, r7, r8⟩ := (show MapL w4.drew bm i (N.q) from HN4.out.map).entry (by omega) HGL.out
            have e1 := r7.look HGL.out
            have e0 := (show MapL w4.drew bm i (N.q) from HN4.out.map).look HGL.out
            obtain ⟨hct, hoth⟩ := HCNT.out
            have hcw : ((N.q).count yl : Int) ≤ 100000 := HCB.out
            obtain ⟨W2, s1, s2, s3, s4, s5, s6, s7⟩ := r8 W1 (N.q ++ [yl]) rfl (by omega) hoth
            rw [hct, Int.natCast_add, Int.natCast_one] at s1
            unfold letV at r1 e0 e1
            have HT := Lib.hid (NK.turn (NK.turn (HN4.out.after (Below.refl _ w4).drew) r2 r3 r4 r5 r6 r7) s2 s3 s4 s5 s6 s7)
            have HKP : Hid (∀ i, i ≠ bm → W2.heap[i]? = w4.heap[i]?) := Lib.hid fun i hi => (s6 i hi).trans (r6 i hi)
            clear r2 r3 r4 r5 r6 r7 r8 s2 s3 s4 s5 s6 s7 hct hoth 
            generalize (N.q).count yl = cc at *
            go_region
            clear r1 e0 e1 s1 hcw
            all_goals
              go_wp2_with fail
              go_roundw
              case rel => exact ⟨i + 1, ⟨N.q ++ [yl], N.s⟩, rfl, by omega, HGD, Lib.hid (HT.out.free.mono (by omega))⟩
              case measure => simp [numOf]; omega
        · have HSD : Hid (∃ code, code ≠ 0 ∧ ∀ w4 gv, NK w w4 b N gv N.q bm i N.q → Calls Try.prog 10 #[.pointer (some ⟨b, 0, none⟩), .agg #[.int .i64 yl.f, .int .i64 yl.t, .string yl.b]] w4 fun e w' => e = .returned (.int .i64 code) ∧ NK w w' b N gv N.q bm i N.q) := Lib.hid (by
            have e : ∃ code : Int, code ≠ 0 ∧ N.send yl = (N, code) := by
              cases ho : Net.okL yl with
              | false => exact ⟨1, by decide, Net.send_no ho⟩
              | true => exact ⟨40, by decide, by unfold Net.send Net.put; rw [if_pos ho, if_pos (by rw [← HM.out]; exact Nat.le_of_not_lt fun q => hyes ⟨ho, q⟩)]⟩
            obtain ⟨code, hc0, hc⟩ := e
            refine ⟨code, hc0, fun w4 gv h => ?_⟩
            have C := nk_send h yl HOK.out.l
            rw [hc] at C
            exact C)
          obtain ⟨code, hc0, hsd⟩ := HSD.out
          have hc1 : (code == 0) = false := beq_eq_false_iff_ne.2 hc0
          have HSE := Lib.hid hsd
          clear hsd hyes HSD
          rcases hat3 with ⟨t0⟩ | ⟨t0, t1⟩ | ⟨t0, t1⟩
          all_goals
            go_wp2_with fail
            refine HL.out.mono ?_
            rintro e w3 ⟨A3, c3, rfl, h3⟩
            have HN3 := Lib.hid h3
            obtain ⟨d0, d1, d2, d3, d4⟩ := HCL.out _ h3.below
            clear h3
            go_wp2_with fail
            refine (HSE.out _ _ HN3.out).mono ?_
            clear d0 d1 d2 d3 d4
            rintro e w4 ⟨rfl, h4⟩
            have HN4 := Lib.hid h4
            obtain ⟨d0, d1, d2, d3, d4⟩ := HCL.out _ h4.below
            clear h4
            go_wp2_with fail
            go_roundw
            case rel => exact ⟨i + 1, N, rfl, by omega, hgd, Lib.hid (HN4.out.free.mono (by omega))⟩
            case measure => simp [numOf]; omega
      · have h0' : (yk == 0) = false := beq_eq_false_iff_ne.2 h0
        by_cases h1 : yk = 1
        · subst h1
          by_cases hin : 0 ≤ yn ∧ yn < (m : Int)
          · obtain ⟨t0, t1⟩ := hin
            obtain ⟨kk, rfl⟩ : ∃ kk : Nat, yn = (kk : Int) := ⟨yn.toNat, by omega⟩
            obtain ⟨l, hl⟩ : ∃ l, N.q[kk]? = some l := ⟨_, List.getElem?_eq_getElem (by rw [← HM.out]; omega)⟩
            have HLL := Lib.hid hl
            have HGO : Hid (Good l) := Lib.hid (hgd.out l (List.mem_of_getElem? hl))
            have HGD : Hid (∀ l ∈ N.q.eraseIdx kk, Good l) := Lib.hid fun l hl => hgd.out l (List.mem_of_mem_eraseIdx hl)
            have HCNT : Hid (N.q.count l = (N.q.eraseIdx kk).count l + 1 ∧ ∀ x, x ≠ l → (N.q.eraseIdx kk).count x = N.q.count x) := Lib.hid (count_erase hl)
            have HCB : Hid ((N.q.count l : Int) ≤ 100000) := Lib.hid (by have := List.count_le_length (a := l) (l := N.q); have := HQ.out.many; omega)
            have hta := Net.take_at (N := N) (k := kk) hl
            have hrr : ∃ rl rc, N.take (kk : Int) = (⟨N.q.eraseIdx kk, N.s⟩, rl, rc) ∧ ((rc = 0 ∧ decide (rl = l) = true) ∨ rc = 15) := by
              by_cases hs : N.side l.f = N.side l.t
              · rw [if_pos hs] at hta; exact ⟨l, 0, hta, .inl ⟨rfl, by simp⟩⟩
              · rw [if_neg hs] at hta; exact ⟨Net.zeroL, 15, hta, .inr rfl⟩
            obtain ⟨rl, rc, hrt, hrc⟩ := hrr
            have HTK : Hid (∀ w4 gv, NK w w4 b N gv N.q bm i N.q → Calls Try.prog 12 #[.pointer (some ⟨b, 0, none⟩), .int .i64 (kk : Nat)] w4 fun e w' => e = .returned (.tuple #[.agg #[.int .i64 rl.f, .int .i64 rl.t, .string rl.b], .int .i64 rc]) ∧ NK w w' b ⟨N.q.eraseIdx kk, N.s⟩ gv N.q bm i N.q) := Lib.hid fun w4 gv h => by
              have C := nk_take h (kk : Int) n0 n1
              rw [hrt] at C
              exact C
            have hne := fun W => ne32 rl l W
            unfold letV at hne
            generalize decide (rl = l) = bq at hne hrc
            clear hta hrt hat3 hl
            rcases hrc with ⟨rfl, rfl⟩ | rfl
            all_goals
              go_wp2_with fail
              refine HL.out.mono ?_
              rintro e w3 ⟨A3, c3, rfl, h3⟩
              have HN3 := Lib.hid h3
              obtain ⟨d0, d1, d2, d3, d4⟩ := HCL.out _ h3.below
              clear h3
              go_wp2_with fail
              refine (HTK.out _ _ HN3.out).mono ?_
              clear d0 d1 d2 d3 d4
              rintro e w4 ⟨rfl, h4⟩
              have HN4 := Lib.hid h4
              obtain ⟨d0, d1, d2, d3, d4⟩ := HCL.out _ h4.below
              clear h4
              obtain ⟨W4, hW4⟩ : ∃ W4, w4.alloc (.cells #[.int .i64 rl.f, .int .i64 rl.t, .string rl.b] 32) = W4 := ⟨_, rfl⟩
              have hb4 : Below w4.heap.size w4 W4 := hW4 ▸ (Below.refl w4.heap.size w4).alloc (Nat.le_refl _) _
              have hx4 : W4.heap[w4.heap.size]? = some (boxL rl) := by rw [← hW4]; exact heap_alloc_new w4 _
              have HX4 := Lib.hid hx4
              have HN5 := Lib.hid (HN4.out.after hb4)
              have HW4 := Lib.hid hW4
              have hbml : bm < w4.heap.size := HN4.out.map.lt
              obtain ⟨g3, o3, cx, e3, _, hg3, x0, x1, x2⟩ := HN5.out.row.at'.one HLL.out
              injection e3 with e3 e4 e5
              clear e4
              subst e3 e5
              clear hb4 hx4 hW4
              go_wp2_with fail
              rw [HW4.out]
              obtain ⟨v0, st, W1, r1, r2, r3, r4, r5, r6, r7, r8⟩ := (show MapL W4.drew bm i (N.q) from HN5.out.map).entry (by omega) HGO.out
              have e1 := r7.look HGO.out
              have e0 := (show MapL W4.drew bm i (N.q) from HN5.out.map).look HGO.out
              obtain ⟨hct, hoth⟩ := HCNT.out
              have hcw : ((N.q).count l : Int) ≤ 100000 := HCB.out
              obtain ⟨W2, s1, s2, s3, s4, s5, s6, s7⟩ := r8 W1 (N.q.eraseIdx kk) rfl (by omega) hoth
              have hz : (((N.q.eraseIdx kk).count l : Nat) : Int) = (((N.q).count l : Nat) : Int) - 1 := by omega
              rw [hz] at s1
              unfold letV at r1 e0 e1
              have HT := Lib.hid (NK.turn (NK.turn (HN5.out.after (Below.refl _ W4).drew) r2 r3 r4 r5 r6 r7) s2 s3 s4 s5 s6 s7)
              have HKP : Hid (∀ i, i ≠ bm → W2.heap[i]? = W4.heap[i]?) := Lib.hid fun i hi => (s6 i hi).trans (r6 i hi)
              clear r2 r3 r4 r5 r6 r7 r8 s2 s3 s4 s5 s6 s7 hct hoth hz
              generalize (N.q).count l = cc at *
              go_region
              clear r1 e0 e1 s1 hcw
              all_goals
                clear x0 x1 x2 d0 d1 d2 d3 d4
                have hy : BoxAt W2 w4.heap.size rl := ⟨(HKP.out _ (by omega)).trans HX4.out⟩
                have y0 := hy.c0
                have y1 := hy.c1
                have y2 := hy.c2
                obtain ⟨g4, o4, cy, e3, _, hg4, x0, x1, x2⟩ := HT.out.row.at'.one HLL.out
                injection e3 with e3 e4 e5
                clear e4 e5
                injection e3 with e3
                injection e3 with e3 e4
                subst e3 e4
                have HTD := Lib.hid fun n => HT.out.after (below_drewN (Below.refl _ W2) n)
                clear hy
                go_wp2_with fail
                go_quiet (fail)
                go_wp2_with fail
                go_roundw
                case rel => exact ⟨i + 1, ⟨N.q.eraseIdx kk, N.s⟩, rfl, by omega, HGD, Lib.hid ((HTD.out _).free.mono (by omega))⟩
                case measure => simp [numOf]; omega
          · have hrem : N.take yn = (N, Net.zeroL, 10) := by
              unfold Net.take
              rw [at_none (by rw [← HM.out]; omega)]
            have HTK : Hid (∀ w4 gv, NK w w4 b N gv N.q bm i N.q → Calls Try.prog 12 #[.pointer (some ⟨b, 0, none⟩), .int .i64 yn] w4 fun e w' => e = .returned (.tuple #[.agg #[.int .i64 0, .int .i64 0, .string ⟨#[]⟩], .int .i64 10]) ∧ NK w w' b N gv N.q bm i N.q) := Lib.hid fun w4 gv h => by
              have C := nk_take h yn n0 n1
              rw [hrem] at C
              exact C
            have hat2 : yn < 0 ∨ (0 ≤ yn ∧ (m : Int) ≤ yn) := by omega
            clear hrem hat3 hin
            rcases hat2 with ⟨t0⟩ | ⟨t0, t1⟩
            all_goals
              go_wp2_with fail
              refine HL.out.mono ?_
              rintro e w3 ⟨A3, c3, rfl, h3⟩
              have HN3 := Lib.hid h3
              obtain ⟨d0, d1, d2, d3, d4⟩ := HCL.out _ h3.below
              clear h3
              go_wp2_with fail
              refine (HTK.out _ _ HN3.out).mono ?_
              clear d0 d1 d2 d3 d4
              rintro e w4 ⟨rfl, h4⟩
              have HN4 := Lib.hid h4
              obtain ⟨d0, d1, d2, d3, d4⟩ := HCL.out _ h4.below
              clear h4
              have HTD := Lib.hid fun n => HN4.out.after (below_drewN ((Below.refl _ w4).alloc (Nat.le_refl _) (.cells #[.int .i64 0, .int .i64 0, .string ⟨#[]⟩] 32)) n)
              clear d0 d1 d2 d3 d4
              go_wp2_with fail
              go_quiet (fail)
              go_wp2_with fail
              go_roundw
              case rel => exact ⟨i + 1, N, rfl, by omega, hgd, Lib.hid ((HTD.out _).free.mono (by omega))⟩
              case measure => simp [numOf]; omega
        · have h1' : (yk == 1) = false := beq_eq_false_iff_ne.2 h1
          by_cases h2 : yk = 2
          · subst h2
            by_cases hyes : (0 ≤ yn ∧ yn < (m : Int)) ∧ m < 400
            · obtain ⟨⟨t0, t1⟩, hful⟩ := hyes
              obtain ⟨kk, rfl⟩ : ∃ kk : Nat, yn = (kk : Int) := ⟨yn.toNat, by omega⟩
              obtain ⟨l, hl⟩ : ∃ l, N.q[kk]? = some l := ⟨_, List.getElem?_eq_getElem (by rw [← HM.out]; omega)⟩
              have HLL := Lib.hid hl
              have HGO : Hid (Good l) := Lib.hid (hgd.out l (List.mem_of_getElem? hl))
              have hcp : N.copy (kk : Int) = (⟨N.q ++ [l], N.s⟩, 0) := by
                obtain ⟨hlt, hll⟩ := List.getElem?_eq_some_iff.1 hl
                unfold Net.copy
                rw [at_some hlt, hll]
                show N.put l = _
                unfold Net.put
                rw [if_neg (by rw [← HM.out]; omega)]
              have HGD : Hid (∀ x ∈ N.q ++ [l], Good x) := Lib.hid fun x hx => by
                rcases List.mem_append.1 hx with h | h
                · exact hgd.out x h
                · rw [List.mem_singleton.1 h]; exact HGO.out
              have HCNT : Hid ((N.q ++ [l]).count l = N.q.count l + 1 ∧ ∀ x, x ≠ l → (N.q ++ [l]).count x = N.q.count x) := Lib.hid ⟨by simp, fun x hx => by simp [List.count_append, Ne.symm hx]⟩
              have HCB : Hid ((N.q.count l : Int) ≤ 100000) := Lib.hid (by have := List.count_le_length (a := l) (l := N.q); have := HQ.out.many; omega)
              have HCY : Hid (∀ w4 gv, NK w w4 b N gv N.q bm i N.q → Calls Try.prog 14 #[.pointer (some ⟨b, 0, none⟩), .int .i64 (kk : Nat)] w4 fun e w' => e = .returned (.int .i64 0) ∧ NK w w' b ⟨N.q ++ [l], N.s⟩ gv N.q bm i N.q) := Lib.hid fun w4 gv h => by
                have C := nk_copy h (kk : Int) n0 n1
                rw [hcp] at C
                exact C
              clear hcp hat3 hl hful
              go_wp2_with fail
              refine HL.out.mono ?_
              rintro e w3 ⟨A3, c3, rfl, h3⟩
              have HN3 := Lib.hid h3
              obtain ⟨d0, d1, d2, d3, d4⟩ := HCL.out _ h3.below
              clear h3
              go_wp2_with fail
              refine (HCY.out _ _ HN3.out).mono ?_
              clear d0 d1 d2 d3 d4
              rintro e w4 ⟨rfl, h4⟩
              have HN4 := Lib.hid h4
              obtain ⟨d0, d1, d2, d3, d4⟩ := HCL.out _ h4.below
              clear h4
              obtain ⟨g3, o3, cx, e3, _, hg3, x0, x1, x2⟩ := HN4.out.row.at'.one HLL.out
              injection e3 with e3 e4 e5
              clear e4
              subst e3 e5
              clear d0 d1 d2 d3 d4
              go_wp2_with fail
              obtain ⟨v0, st, W1, r1, r2, r3, r4, r5, r6, r7, r8⟩ := (show MapL w4.drew bm i (N.q) from HN4.out.map).entry (by omega) HGO.out
              have e1 := r7.look HGO.out
              have e0 := (show MapL w4.drew bm i (N.q) from HN4.out.map).look HGO.out
              obtain ⟨hct, hoth⟩ := HCNT.out
              have hcw : ((N.q).count l : Int) ≤ 100000 := HCB.out
              obtain ⟨W2, s1, s2, s3, s4, s5, s6, s7⟩ := r8 W1 (N.q ++ [l]) rfl (by omega) hoth
              rw [hct, Int.natCast_add, Int.natCast_one] at s1
              unfold letV at r1 e0 e1
              have HT := Lib.hid (NK.turn (NK.turn (HN4.out.after (Below.refl _ w4).drew) r2 r3 r4 r5 r6 r7) s2 s3 s4 s5 s6 s7)
              have HKP : Hid (∀ i, i ≠ bm → W2.heap[i]? = w4.heap[i]?) := Lib.hid fun i hi => (s6 i hi).trans (r6 i hi)
              clear r2 r3 r4 r5 r6 r7 r8 s2 s3 s4 s5 s6 s7 hct hoth 
              generalize (N.q).count l = cc at *
              go_region
              clear r1 e0 e1 s1 hcw
              all_goals
                clear x0 x1 x2
                go_wp2_with fail
                go_roundw
                case rel => exact ⟨i + 1, ⟨N.q ++ [l], N.s⟩, rfl, by omega, HGD, Lib.hid (HT.out.free.mono (by omega))⟩
                case measure => simp [numOf]; omega
            · have e : ∃ code : Int, N.copy yn = (N, code) ∧ (code = 0 → False) := by
                unfold Net.copy
                by_cases hin : 0 ≤ yn ∧ yn < (m : Int)
                · obtain ⟨kk, rfl⟩ : ∃ kk : Nat, yn = (kk : Int) := ⟨yn.toNat, by omega⟩
                  rw [at_some (by rw [← HM.out]; omega)]
                  exact ⟨40, by show N.put _ = _; unfold Net.put; rw [if_pos (by rw [← HM.out]; exact Nat.le_of_not_lt fun q => hyes ⟨hin, q⟩)], fun q => (by cases q)⟩
                · rw [at_none (by rw [← HM.out]; omega)]
                  exact ⟨10, rfl, fun q => (by cases q)⟩
              obtain ⟨code, hcp, hc0⟩ := e
              have hc1 : (code == 0) = false := beq_eq_false_iff_ne.2 hc0
              have HCY : Hid (∀ w4 gv, NK w w4 b N gv N.q bm i N.q → Calls Try.prog 14 #[.pointer (some ⟨b, 0, none⟩), .int .i64 yn] w4 fun e w' => e = .returned (.int .i64 code) ∧ NK w w' b N gv N.q bm i N.q) := Lib.hid fun w4 gv h => by
                have C := nk_copy h yn n0 n1
                rw [hcp] at C
                exact C
              clear hcp hyes
              rcases hat3 with ⟨t0⟩ | ⟨t0, t1⟩ | ⟨t0, t1⟩
              all_goals
                go_wp2_with fail
                refine HL.out.mono ?_
                rintro e w3 ⟨A3, c3, rfl, h3⟩
                have HN3 := Lib.hid h3
                obtain ⟨d0, d1, d2, d3, d4⟩ := HCL.out _ h3.below
                clear h3
                go_wp2_with fail
                refine (HCY.out _ _ HN3.out).mono ?_
                clear d0 d1 d2 d3 d4
                rintro e w4 ⟨rfl, h4⟩
                have HN4 := Lib.hid h4
                obtain ⟨d0, d1, d2, d3, d4⟩ := HCL.out _ h4.below
                clear h4
                go_wp2_with fail
                go_roundw
                case rel => exact ⟨i + 1, N, rfl, by omega, hgd, Lib.hid (HN4.out.free.mono (by omega))⟩
                case measure => simp [numOf]; omega
          · have h2' : (yk == 2) = false := beq_eq_false_iff_ne.2 h2
            by_cases h3 : yk = 3
            · subst h3
              by_cases hyes : 0 ≤ yn ∧ yn < (m : Int)
              · obtain ⟨t0, t1⟩ := hyes
                obtain ⟨kk, rfl⟩ : ∃ kk : Nat, yn = (kk : Int) := ⟨yn.toNat, by omega⟩
                obtain ⟨l, hl⟩ : ∃ l, N.q[kk]? = some l := ⟨_, List.getElem?_eq_getElem (by rw [← HM.out]; omega)⟩
                have HLL := Lib.hid hl
                have HGO : Hid (Good l) := Lib.hid (hgd.out l (List.mem_of_getElem? hl))
                have HGD : Hid (∀ l ∈ N.q.eraseIdx kk, Good l) := Lib.hid fun l hl => hgd.out l (List.mem_of_mem_eraseIdx hl)
                have HCNT : Hid (N.q.count l = (N.q.eraseIdx kk).count l + 1 ∧ ∀ x, x ≠ l → (N.q.eraseIdx kk).count x = N.q.count x) := Lib.hid (count_erase hl)
                have HCB : Hid ((N.q.count l : Int) ≤ 100000) := Lib.hid (by have := List.count_le_length (a := l) (l := N.q); have := HQ.out.many; omega)
                have hcp : N.drop (kk : Int) = (⟨N.q.eraseIdx kk, N.s⟩, 0) := by
                  unfold Net.drop
                  rw [at_some (by rw [← HM.out]; omega)]
                  show (Net.rem N (kk : Int), (0 : Int)) = _
                  unfold Net.rem
                  rw [Int.toNat_natCast]
                have HCY : Hid (∀ w4 gv, NK w w4 b N gv N.q bm i N.q → Calls Try.prog 16 #[.pointer (some ⟨b, 0, none⟩), .int .i64 (kk : Nat)] w4 fun e w' => e = .returned (.int .i64 0) ∧ NK w w' b ⟨N.q.eraseIdx kk, N.s⟩ gv N.q bm i N.q) := Lib.hid fun w4 gv h => by
                  have C := nk_drop h (kk : Int) n0 n1
                  rw [hcp] at C
                  exact C
                clear hcp hat3 hl 
                go_wp2_with fail
                refine HL.out.mono ?_
                rintro e w3 ⟨A3, c3, rfl, h3⟩
                have HN3 := Lib.hid h3
                obtain ⟨d0, d1, d2, d3, d4⟩ := HCL.out _ h3.below
                clear h3
                go_wp2_with fail
                refine (HCY.out _ _ HN3.out).mono ?_
                clear d0 d1 d2 d3 d4
                rintro e w4 ⟨rfl, h4⟩
                have HN4 := Lib.hid h4
                obtain ⟨d0, d1, d2, d3, d4⟩ := HCL.out _ h4.below
                clear h4
                obtain ⟨g3, o3, cx, e3, _, hg3, x0, x1, x2⟩ := HN4.out.row.at'.one HLL.out
                injection e3 with e3 e4 e5
                clear e4
                subst e3 e5
                clear d0 d1 d2 d3 d4
                go_wp2_with fail
                obtain ⟨v0, st, W1, r1, r2, r3, r4, r5, r6, r7, r8⟩ := (show MapL w4.drew bm i (N.q) from HN4.out.map).entry (by omega) HGO.out
                have e1 := r7.look HGO.out
                have e0 := (show MapL w4.drew bm i (N.q) from HN4.out.map).look HGO.out
                obtain ⟨hct, hoth⟩ := HCNT.out
                have hcw : ((N.q).count l : Int) ≤ 100000 := HCB.out
                obtain ⟨W2, s1, s2, s3, s4, s5, s6, s7⟩ := r8 W1 (N.q.eraseIdx kk) rfl (by omega) hoth
                have hz : (((N.q.eraseIdx kk).count l : Nat) : Int) = (((N.q).count l : Nat) : Int) - 1 := by omega
                rw [hz] at s1
                unfold letV at r1 e0 e1
                have HT := Lib.hid (NK.turn (NK.turn (HN4.out.after (Below.refl _ w4).drew) r2 r3 r4 r5 r6 r7) s2 s3 s4 s5 s6 s7)
                have HKP : Hid (∀ i, i ≠ bm → W2.heap[i]? = w4.heap[i]?) := Lib.hid fun i hi => (s6 i hi).trans (r6 i hi)
                clear r2 r3 r4 r5 r6 r7 r8 s2 s3 s4 s5 s6 s7 hct hoth hz
                generalize (N.q).count l = cc at *
                go_region
                clear r1 e0 e1 s1 hcw
                all_goals
                  clear x0 x1 x2
                  go_wp2_with fail
                  go_roundw
                  case rel => exact ⟨i + 1, ⟨N.q.eraseIdx kk, N.s⟩, rfl, by omega, HGD, Lib.hid (HT.out.free.mono (by omega))⟩
                  case measure => simp [numOf]; omega
              · have e : ∃ code : Int, N.drop yn = (N, code) ∧ (code = 0 → False) := by
                  unfold Net.drop
                  rw [at_none (by rw [← HM.out]; omega)]
                  exact ⟨10, rfl, fun q => (by cases q)⟩
                obtain ⟨code, hcp, hc0⟩ := e
                have hc1 : (code == 0) = false := beq_eq_false_iff_ne.2 hc0
                have HCY : Hid (∀ w4 gv, NK w w4 b N gv N.q bm i N.q → Calls Try.prog 16 #[.pointer (some ⟨b, 0, none⟩), .int .i64 yn] w4 fun e w' => e = .returned (.int .i64 code) ∧ NK w w' b N gv N.q bm i N.q) := Lib.hid fun w4 gv h => by
                  have C := nk_drop h yn n0 n1
                  rw [hcp] at C
                  exact C
                clear hcp hyes
                rcases hat3 with ⟨t0⟩ | ⟨t0, t1⟩ | ⟨t0, t1⟩
                all_goals
                  go_wp2_with fail
                  refine HL.out.mono ?_
                  rintro e w3 ⟨A3, c3, rfl, h3⟩
                  have HN3 := Lib.hid h3
                  obtain ⟨d0, d1, d2, d3, d4⟩ := HCL.out _ h3.below
                  clear h3
                  go_wp2_with fail
                  refine (HCY.out _ _ HN3.out).mono ?_
                  clear d0 d1 d2 d3 d4
                  rintro e w4 ⟨rfl, h4⟩
                  have HN4 := Lib.hid h4
                  obtain ⟨d0, d1, d2, d3, d4⟩ := HCL.out _ h4.below
                  clear h4
                  go_wp2_with fail
                  go_roundw
                  case rel => exact ⟨i + 1, N, rfl, by omega, hgd, Lib.hid (HN4.out.free.mono (by omega))⟩
                  case measure => simp [numOf]; omega
            · have h3' : (yk == 3) = false := beq_eq_false_iff_ne.2 h3
              by_cases h4 : yk = 4
              · subst h4
                have HSP : Hid (∀ w4 gv, NK w w4 b N gv N.q bm i N.q → Calls Try.prog 18 #[.pointer (some ⟨b, 0, none⟩), .int .i64 yn] w4 fun e w' => e = .returned (.tuple #[]) ∧ NK w w' b (N.split yn) gv N.q bm i (N.split yn).q) := Lib.hid fun w4 gv h => nk_split h yn n0 n1
                rcases hat3 with ⟨t0⟩ | ⟨t0, t1⟩ | ⟨t0, t1⟩
                all_goals
                  go_wp2_with fail
                  refine HL.out.mono ?_
                  rintro e w3 ⟨A3, c3, rfl, h3⟩
                  have HN3 := Lib.hid h3
                  obtain ⟨d0, d1, d2, d3, d4⟩ := HCL.out _ h3.below
                  clear h3
                  go_wp2_with fail
                  refine (HSP.out _ _ HN3.out).mono ?_
                  clear d0 d1 d2 d3 d4
                  rintro e w4 ⟨rfl, h4⟩
                  have HN4 := Lib.hid h4
                  obtain ⟨d0, d1, d2, d3, d4⟩ := HCL.out _ h4.below
                  clear h4
                  go_wp2_with fail
                  go_roundw
                  case rel => exact ⟨i + 1, (N.split yn), rfl, by omega, hgd, Lib.hid (HN4.out.free.mono (by omega))⟩
                  case measure => simp [numOf]; omega
              · have h4' : (yk == 4) = false := beq_eq_false_iff_ne.2 h4
                rcases hat3 with ⟨t0⟩ | ⟨t0, t1⟩ | ⟨t0, t1⟩
                all_goals
                  go_wp2_with fail
                  refine HL.out.mono ?_
                  rintro e w3 ⟨A3, c3, rfl, h3⟩
                  have HN3 := Lib.hid h3
                  obtain ⟨d0, d1, d2, d3, d4⟩ := HCL.out _ h3.below
                  clear h3
                  go_wp2_with fail
                  go_roundw
                  case rel => exact ⟨i + 1, N, rfl, by omega, hgd, Lib.hid (HN3.out.free.mono (by omega))⟩
                  case measure => simp [numOf]; omega
    · have hil2 : (xs.length : Int) ≤ (i : Int) ∨ ((i : Int) < (xs.length : Int) ∧ (500 : Int) ≤ (i : Int)) := by omega
      have HQ := Lib.hid hn.out.net.ok
      obtain ⟨m, hm⟩ : ∃ m, m = N.q.length := ⟨_, rfl⟩
      have HM := Lib.hid hm
      have hml : (m : Int) ≤ 400 := by have := HQ.out.many; omega
      have HL : Hid (Calls Try.prog 20 #[.pointer (some ⟨b, 0, none⟩)] wo fun e w' => ∃ A c, e = .returned (.slice A m c) ∧ NK w w' b N (.slice A m c) N.q bm i N.q) := Lib.hid ((nk_way hn.out).mono fun e w' ⟨A, m', c, q1, q2, q3⟩ => ⟨A, c, by rw [q1, q2, HM.out], by rw [q2] at q3; rw [HM.out]; exact q3⟩)
      clear hn hm hil
      rcases hil2 with h1 | ⟨h1, h2⟩
      all_goals
        go_wp2_with fail
        refine HL.out.mono ?_
        rintro e w3 ⟨A3, c3, rfl, h3⟩
        have HN3 : Hid (NK w w3 b N (.slice A3 m c3) N.q bm (i + 0) (N.q.drop 0)) := Lib.hid h3
        clear h3
        go_wp2_with fail
        go_loopw [12, 150] (fun _ jV wr => ∃ j : Nat, jV = .int .i64 (j : Nat) ∧ j ≤ m ∧ Hid (NK w wr b N (.slice A3 m c3) N.q bm (i + j) (N.q.drop j))) (fun _ jV _ => m - (numOf jV).toNat)
        case atStart => exact ⟨0, rfl, by omega, HN3⟩
        case round =>
          obtain ⟨j, rfl, hj, hd⟩ := hrel
          clear HN3
          obtain ⟨wq, hwq⟩ : ∃ q, q = wr := ⟨_, rfl⟩
          subst hwq
          by_cases hjm : j < m
          · have hjm2 : (j : Int) < (m : Int) := by omega
            obtain ⟨l, hl⟩ : ∃ l, N.q[j]? = some l := ⟨_, List.getElem?_eq_getElem (by rw [← HM.out]; omega)⟩
            have HGO : Hid (Good l) := Lib.hid (hgd.out l (List.mem_of_getElem? hl))
            have HCNT : Hid ((N.q.drop j).count l = (N.q.drop (j + 1)).count l + 1 ∧ ∀ x, x ≠ l → (N.q.drop (j + 1)).count x = (N.q.drop j).count x) := Lib.hid (count_tail hl)
            have HCB : Hid (((N.q.drop j).count l : Int) ≤ 100000) := Lib.hid (by have := List.count_le_length (a := l) (l := N.q.drop j); rw [List.length_drop] at this; have := HQ.out.many; omega)
            obtain ⟨g3, o3, cx, e3, _, hg3, x0, x1, x2⟩ := hd.out.row.at'.one hl
            injection e3 with e3 e4 e5
            clear e4
            subst e3 e5
            clear hl
            go_wp2_with fail
            obtain ⟨v0, st, W1, r1, r2, r3, r4, r5, r6, r7, r8⟩ := (show MapL wq.drew bm (i + j) (N.q.drop j) from hd.out.map).entry (by omega) HGO.out
            have e1 := r7.look HGO.out
            have e0 := (show MapL wq.drew bm (i + j) (N.q.drop j) from hd.out.map).look HGO.out
            obtain ⟨hct, hoth⟩ := HCNT.out
            have hcw : ((N.q.drop j).count l : Int) ≤ 100000 := HCB.out
            obtain ⟨W2, s1, s2, s3, s4, s5, s6, s7⟩ := r8 W1 (N.q.drop (j + 1)) rfl (by omega) hoth
            have hz : (((N.q.drop (j + 1)).count l : Nat) : Int) = (((N.q.drop j).count l : Nat) : Int) - 1 := by omega
            rw [hz] at s1
            unfold letV at r1 e0 e1
            have HT := Lib.hid (NK.turn (NK.turn (hd.out.after (Below.refl _ wq).drew) r2 r3 r4 r5 r6 r7) s2 s3 s4 s5 s6 s7)
            have HKP : Hid (∀ i, i ≠ bm → W2.heap[i]? = wq.heap[i]?) := Lib.hid fun i hi => (s6 i hi).trans (r6 i hi)
            clear r2 r3 r4 r5 r6 r7 r8 s2 s3 s4 s5 s6 s7 hct hoth hz
            generalize (N.q.drop j).count l = cc at *
            go_region
            clear r1 e0 e1 s1 hcw

            all_goals
              clear x0 x1 x2
              go_wp2_with fail
              go_roundw
              case rel => exact ⟨j + 1, rfl, by omega, HT⟩
              case measure => simp [numOf]; omega
          · have hje : (m : Int) ≤ (j : Int) := by omega
            have hdj : decide (j < m) = false := decide_eq_false (by omega)
            have hnil : N.q.drop j = [] := List.drop_eq_nil_of_le (by rw [← HM.out]; omega)
            have HD := hd
            rw [hnil] at HD
            clear hd hnil
            obtain ⟨D, hD1, hD2⟩ := HD.out.map
            have HD1 := Lib.hid hD1
            have HZ : Hid (∀ x, Good x → D.atKey (kl x) (.lit (.int .i64 0)) = .lit (.int .i64 0)) := Lib.hid fun x hx => hD2 x hx
            have HBW := Lib.hid HD.out.below
            have hbml : bm < wq.heap.size := HD.out.map.lt
            clear hD1 hD2 hjm
            go_wp2_with (first | (at_range; refine wpList_range_own _ rfl _ 44 rfl 32 3 law32 Try.underlying44 RI bm (i + j) D rfl HD1.out ?_; intro w0 hrg0 hg0 hs0) | go_in)
            go_frame
            have HB0 := Lib.hid (HBW.out.trans (((Below.refl _ wq).grown hg0 (Nat.le_refl _) (fun k hk => by cases hk)).mono HBW.out.size))
            have HWS := Lib.hid HBW.out.size
            clear hg0 hs0
            go_loopw [14] (fun uV wr => ∃ (left : Lit → Bool) (cnt : Nat), Rng wr bm wq.heap.size (i + j) D left cnt ∧ Hid (Below w.heap.size w wr)) (fun _ wr => wr.rangeLeft bm wq.heap.size)
            case atStart => exact ⟨_, _, hrg0, HB0⟩
            case round =>
              obtain ⟨left, cnt, hrg, hbw⟩ := hrel
              have HR := Lib.hid hrg
              clear hrg0 HB0 hrg
              go_wp2_with (at_next; refine wp_next_zero rfl _ rfl bm wq.heap.size (i + j) D left cnt rfl HR.out HZ.out ?_ ?_)
              · go_wp2_with fail
                go_ret
                exact ⟨rfl, hbw.out⟩
              · intro l w1 left1 cnt1 hrg1 hlt hg1 hs1 hen
                have HB1 := Lib.hid (hbw.out.grown hg1 hbw.out.size (fun k hk => by cases hk; exact HWS.out))
                have HR1 := Lib.hid hrg1
                have HE := Lib.hid hlt
                clear hrg1 hlt hg1 hs1
                go_wp2_with fail
                go_roundw
                case rel => exact ⟨_, _, HR1.out, HB1⟩
                case measure =>
                  rw [HR1.out.left_eq, HR.out.left_eq]
                  exact HE.out
end Go.Proofs.Ytipclhklkngamaa
