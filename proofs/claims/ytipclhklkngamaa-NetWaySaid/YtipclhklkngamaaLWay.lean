import Derived.Test.YtipclhklkngamaaNp
namespace Go.Proofs.Ytipclhklkngamaa
open Go.RowKit
set_option linter.unusedVariables false

/-- the net's way, held -/
theorem ng_look {W w : World} {b : Nat} {N : Net} (h : NC W w b N (fun _ => False)) : Calls Try.prog 20 #[.pointer (some ⟨b, 0, none⟩)] w fun e w' => ∃ A c, e = .returned (.slice A N.q.length c) ∧ NG W w' b N (.slice A N.q.length c) N.q :=
  (nc_way h).mono fun e w' ⟨A, c, q1, q2, q3, q4⟩ => ⟨A, c, q1, ⟨(h.hold q3).fewer fun k hk => .inr (q2.lt k hk), q2.mono h.below.size⟩⟩
theorem ng_copy {W w : World} {b : Nat} {N : Net} {gv : Value} {q : List Let} (h : NG W w b N gv q) (k : Int) (k0 : -9223372036854775808 ≤ k) (k1 : k ≤ 9223372036854775807) : Calls Try.prog 14 #[.pointer (some ⟨b, 0, none⟩), .int .i64 k] w fun e w' => e = .returned (.int .i64 (N.copy k).2) ∧ NG W w' b (N.copy k).1 gv q :=
  (nc_copy h.net k k0 k1).mono fun e w' ⟨q1, q2, q3⟩ => ⟨q1, h.call q2 q3⟩
theorem ng_drop {W w : World} {b : Nat} {N : Net} {gv : Value} {q : List Let} (h : NG W w b N gv q) (k : Int) (k0 : -9223372036854775808 ≤ k) (k1 : k ≤ 9223372036854775807) : Calls Try.prog 16 #[.pointer (some ⟨b, 0, none⟩), .int .i64 k] w fun e w' => e = .returned (.int .i64 (N.drop k).2) ∧ NG W w' b (N.drop k).1 gv q :=
  (nc_drop h.net k k0 k1).mono fun e w' ⟨q1, q2, q3⟩ => ⟨q1, h.call q2 q3⟩
set_option maxHeartbeats 80000000 in
set_option maxRecDepth 100000 in
theorem law_way (v : Value) (xs : List NAct) (w : World) (hx : ActsAt w v xs w.heap.size) :
    Calls Try.prog 6 #[v] w (RetBelow (.bool true) w) := by
  obtain ⟨A, c, rfl, l1, l2⟩ := hx.form
  have HX := Lib.hid hx
  have HAW := Lib.hid (awake_any w)
  clear hx
  go_enter Try.func6, Try.ntmps6
  go_wp2_with fail
  refine HAW.out.mono ?_
  rintro e w1 ⟨rfl, hb1⟩
  have HB1 := Lib.hid hb1
  clear hb1
  go_wp2_with fail
  have C := nc_new (W := w) HB1.out
  refine C.mono ?_
  clear C
  rintro e w2 ⟨rfl, hn, hb2⟩
  have HN := Lib.hid hn
  clear hn hb2
  generalize w1.heap.size = b at *
  go_wp2_with fail
  go_loopw [4] (fun iV wr => ∃ (i : Nat) (N : Net), iV = .int .i64 (i : Nat) ∧ i ≤ 500 ∧ Hid (NC w wr b N (fun _ => False))) (fun iV _ => 500 - (numOf iV).toNat)
  case atStart => exact ⟨0, _, rfl, by omega, HN⟩
  case round =>
    obtain ⟨i, N, rfl, hi, hn⟩ := hrel
    clear HN
    by_cases hil : i < xs.length ∧ i < 500
    · obtain ⟨hil, hi5⟩ := hil
      obtain ⟨y, hy⟩ : ∃ y, xs[i]? = some y := ⟨_, List.getElem?_eq_getElem hil⟩
      obtain ⟨k, off, rfl, hk, c0, c1, c2, c3, c4, hok⟩ := HX.out.one hn.out.below hy
      have HCL : Hid (∀ W' : World, Below w.heap.size w W' → W'.cell? ⟨k, off + i * 5, none⟩ = some (.int .i64 y.kind) ∧ W'.cell? ⟨k, off + i * 5 + 1, none⟩ = some (.int .i64 y.n) ∧ W'.cell? ⟨k, off + i * 5 + 2, none⟩ = some (.int .i64 y.l.f) ∧ W'.cell? ⟨k, off + i * 5 + 3, none⟩ = some (.int .i64 y.l.t) ∧ W'.cell? ⟨k, off + i * 5 + 4, none⟩ = some (.string y.l.b)) := Lib.hid fun W' hb' => by
        have e := (hb'.block k hk).trans (hn.out.below.block k hk).symm
        exact ⟨(World.cell?_of_block e).trans c0, (World.cell?_of_block e).trans c1, (World.cell?_of_block e).trans c2, (World.cell?_of_block e).trans c3, (World.cell?_of_block e).trans c4⟩
      have hlen : (i : Int) < (xs.length : Int) := by omega
      have hi500 : (i : Int) < 500 := by omega
      obtain ⟨yk, yn, yl⟩ := y
      have HOK := Lib.hid hok
      have n0 := hok.n0
      have n1 := hok.n1
      have k0 := hok.k0
      have k1 := hok.k1
      dsimp only at *
      have HQ := Lib.hid hn.out.ok
      have hml : (N.q.length : Int) ≤ 400 := by have := HQ.out.many; omega
      clear hok hy c0 c1 c2 c3 c4
      have HL := Lib.hid (ng_look hn.out)
      obtain ⟨m, hm⟩ : ∃ m, N.q.length = m := ⟨_, rfl⟩
      have HM := Lib.hid hm
      rw [hm] at HL hml
      clear hn hm
      have hat3 : yn < 0 ∨ (0 ≤ yn ∧ yn < (m : Int)) ∨ (0 ≤ yn ∧ (m : Int) ≤ yn) := by omega
      by_cases h0 : yk = 0
      · subst h0
        by_cases hyes : Net.okL yl = true ∧ m < 400
        · obtain ⟨ho, hful⟩ := hyes
          have hss := Net.send_yes (N := N) ho (by rw [HM.out]; omega)
          have HSD : Hid (∀ w4 gv, NG w w4 b N gv N.q → Calls Try.prog 10 #[.pointer (some ⟨b, 0, none⟩), .agg #[.int .i64 yl.f, .int .i64 yl.t, .string yl.b]] w4 fun e w' => e = .returned (.int .i64 0) ∧ NG w w' b ⟨N.q ++ [yl], N.s⟩ gv N.q) := Lib.hid fun w4 gv h => by
            have C := ng_send h yl HOK.out.l
            rw [hss] at C
            exact C
          clear hss ho hful
          rcases hat3 with ⟨t0⟩ | ⟨t0, t1⟩ | ⟨t0, t1⟩
          all_goals
            go_wp2_with fail
            refine HL.out.mono ?_
            rintro e w3 ⟨A3, c3, rfl, h3⟩
            have HN3 := Lib.hid h3
            obtain ⟨d0, d1, d2, d3, d4⟩ := HCL.out _ h3.below
            clear h3
            go_wp2_with fail
            refine (HSD.out _ _ HN3.out).mono ?_
            clear d0 d1 d2 d3 d4
            rintro e w4 ⟨rfl, h4⟩
            have HN4 := Lib.hid h4
            obtain ⟨d0, d1, d2, d3, d4⟩ := HCL.out _ h4.below
            clear h4
            go_wp2_with fail
            have HC4 : Hid (∀ W' : World, Below w4.heap.size w4 W' → W'.cell? ⟨k, off + i * 5, none⟩ = some (.int .i64 0) ∧ W'.cell? ⟨k, off + i * 5 + 1, none⟩ = some (.int .i64 yn) ∧ W'.cell? ⟨k, off + i * 5 + 2, none⟩ = some (.int .i64 yl.f) ∧ W'.cell? ⟨k, off + i * 5 + 3, none⟩ = some (.int .i64 yl.t) ∧ W'.cell? ⟨k, off + i * 5 + 4, none⟩ = some (.string yl.b)) := Lib.hid fun W' hb' => HCL.out _ (HN4.out.below.trans (hb'.mono HN4.out.below.size))
            have hk4 : k < w4.heap.size := by have := HN4.out.below.size; omega
            have HLN : Hid (N.q.length + 1 ≤ 1000000) := Lib.hid (by have := HQ.out.many; omega)
            go_region_law (first
              | ((refine step_appL (by rfl) (.tmp 55) (.tmp 61) (by rfl) w4.heap.size w4 v5 _ (by rfl) (ho5.out.belows (by repeat (first | exact Below.refl _ _ | exact hb5.out | refine Below.drew ?_ | refine bel_alloc ?_ _))) _ [yl] _ (by rfl) (LsAt.box1 (by first | exact hp_new (by first | rfl | simp) | exact (hg5.out.block _ (by first | (simp; done) | (simp; omega)) (by simp [Value.ownBlock])).trans (by first | exact hp_new (by first | rfl | simp) | exact hp_old (hp_new (by first | rfl | simp))))) (by have := HLN.out; simp; omega) (by repeat (first | exact Below.refl _ _ | exact hb5.out | refine Below.drew ?_ | refine bel_alloc ?_ _)) (by have := hb5.out.size; simp; omega) ?_); intro v6 w6 ho6 hb6 hg6)
              | ((refine step_appL (by rfl) (.tmp 53) (.tmp 54) (by rfl) w4.heap.size w4 _ [] (by rfl) (OwnL.fresh (by first | exact hp_new (by first | rfl | simp) | exact hp_old (hp_new (by first | rfl | simp))) (by simp)) _ _ _ (by rfl) (HN4.out.row.at'.belows (by repeat (first | exact Below.refl _ _ | refine Below.drew ?_ | refine bel_alloc ?_ _))) (by have := HLN.out; simp; omega) (by repeat (first | exact Below.refl _ _ | refine Below.drew ?_ | refine bel_alloc ?_ _)) (by first | (simp; done) | (simp; omega)) ?_); intro v5 w5 ho5 hb5 hg5; obtain ⟨d5, d6, d7, d8, d9⟩ := HC4.out _ hb5.out))
            all_goals
              clear d5 d6 d7 d8 d9
              have HN6 := Lib.hid (HN4.out.after hb6.out)
              have HR6 : Hid (LsAt w6 v6 (N.q ++ [yl]) _) := Lib.hid ho6.out.at'
              go_wp2_with fail
              refine (nc_ways HN6.out.net).mono ?_
              clear d0 d1 d2 d3 d4
              rintro e w7 ⟨A7, m7, c7, rfl, o7, hb7, hn7⟩
              have HN7 := Lib.hid (hn7.fewer (H' := fun _ => False) fun k hk => hk.elim)
              have HSM := Lib.hid (same_yes o7.at' (HR6.out.belows hb7))
              clear o7 hb7 hn7
              go_wp2_with fail
              refine HSM.out.mono ?_
              rintro e w8 ⟨rfl, hb8⟩
              have HN8 := Lib.hid (HN7.out.after hb8)
              clear hb8
              go_wp2_with fail
              go_roundw
              case rel => exact ⟨i + 1, _, rfl, by omega, HN8⟩
              case measure => simp [numOf]; omega
        · have HSD : Hid (∃ code, code ≠ 0 ∧ ∀ w4 gv, NG w w4 b N gv N.q → Calls Try.prog 10 #[.pointer (some ⟨b, 0, none⟩), .agg #[.int .i64 yl.f, .int .i64 yl.t, .string yl.b]] w4 fun e w' => e = .returned (.int .i64 code) ∧ NG w w' b N gv N.q) := Lib.hid (by
            have e : ∃ code : Int, code ≠ 0 ∧ N.send yl = (N, code) := by
              cases ho : Net.okL yl with
              | false => exact ⟨1, by decide, Net.send_no ho⟩
              | true => exact ⟨40, by decide, by unfold Net.send Net.put; rw [if_pos ho, if_pos (by rw [HM.out]; exact Nat.le_of_not_lt fun q => hyes ⟨ho, q⟩)]⟩
            obtain ⟨code, hc0, hc⟩ := e
            refine ⟨code, hc0, fun w4 gv h => ?_⟩
            have C := ng_send h yl HOK.out.l
            rw [hc] at C
            exact C)
          obtain ⟨code, hc0, hsd⟩ := HSD.out
          have hc1 : (code == 0) = false := beq_eq_false_iff_ne.2 hc0
          have HSE := Lib.hid hsd
          clear hsd hyes HSD
          rcases hat3 with ⟨t0⟩ | ⟨t0, t1⟩ | ⟨t0, t1⟩
          all_goals
            go_wp2_with fail
            refine HL.out.mono ?_
            rintro e w3 ⟨A3, c3, rfl, h3⟩
            have HN3 := Lib.hid h3
            obtain ⟨d0, d1, d2, d3, d4⟩ := HCL.out _ h3.below
            clear h3
            go_wp2_with fail
            refine (HSE.out _ _ HN3.out).mono ?_
            clear d0 d1 d2 d3 d4
            rintro e w4 ⟨rfl, h4⟩
            have HN4 := Lib.hid h4
            obtain ⟨d0, d1, d2, d3, d4⟩ := HCL.out _ h4.below
            clear h4
            have HN6 := HN4
            have HR6 := Lib.hid HN4.out.row.at'
            go_wp2_with fail
            refine (nc_ways HN6.out.net).mono ?_
            clear d0 d1 d2 d3 d4
            rintro e w7 ⟨A7, m7, c7, rfl, o7, hb7, hn7⟩
            have HN7 := Lib.hid (hn7.fewer (H' := fun _ => False) fun k hk => hk.elim)
            have HSM := Lib.hid (same_yes o7.at' (HR6.out.belows hb7))
            clear o7 hb7 hn7
            go_wp2_with fail
            refine HSM.out.mono ?_
            rintro e w8 ⟨rfl, hb8⟩
            have HN8 := Lib.hid (HN7.out.after hb8)
            clear hb8
            go_wp2_with fail
            go_roundw
            case rel => exact ⟨i + 1, _, rfl, by omega, HN8⟩
            case measure => simp [numOf]; omega
      · have h0' : (yk == 0) = false := beq_eq_false_iff_ne.2 h0
        by_cases h1 : yk = 1
        · subst h1
          have HTK : Hid (∀ w4 gv, NG w w4 b N gv N.q → Calls Try.prog 12 #[.pointer (some ⟨b, 0, none⟩), .int .i64 yn] w4 fun e w' => e = .returned (.tuple #[letV (N.take yn).2.1, .int .i64 (N.take yn).2.2]) ∧ NG w w' b (N.take yn).1 gv N.q) := Lib.hid fun w4 gv h => ng_take h yn n0 n1
          generalize (N.take yn).2.1 = rl at HTK
          generalize (N.take yn).2.2 = rc at HTK
          by_cases hin : 0 ≤ yn ∧ yn < (m : Int)
          · obtain ⟨t0, t1⟩ := hin
            obtain ⟨kk, rfl⟩ : ∃ kk : Nat, yn = (kk : Int) := ⟨yn.toNat, by omega⟩
            have hkm : kk < m := by omega
            have hrem : (N.take (kk : Int)).1 = ⟨N.q.take kk ++ N.q.drop (kk + 1), N.s⟩ := by
              unfold Net.take
              rw [at_some (by rw [HM.out]; omega)]
              show Net.rem N (kk : Int) = _
              unfold Net.rem
              rw [Int.toNat_natCast, List.eraseIdx_eq_take_drop_succ]
            rw [hrem] at HTK
            clear hrem hat3
            go_wp2_with fail
            refine HL.out.mono ?_
            rintro e w3 ⟨A3, c3, rfl, h3⟩
            have HN3 := Lib.hid h3
            obtain ⟨d0, d1, d2, d3, d4⟩ := HCL.out _ h3.below
            clear h3
            obtain ⟨g3, rfl⟩ : ∃ g3, A3 = some ⟨g3, 0, none⟩ := by
              rcases HN3.out.row.2 with ⟨_, hq⟩ | ⟨g, cap, cur, e, _⟩
              · exfalso; rw [HM.out] at hq; omega
              · injection e with e _ _; exact ⟨g, e⟩
            obtain ⟨hmc, hc3⟩ : m ≤ c3 ∧ c3 ≤ 9223372036854775807 := by
              obtain ⟨A', c', e, f1, f2, _⟩ := HN3.out.row.form
              injection e with e1 e2 e3
              rw [HM.out] at f1
              omega
            go_wp2_with fail
            refine (HTK.out _ _ HN3.out).mono ?_
            clear d0 d1 d2 d3 d4
            rintro e w4 ⟨rfl, h4⟩
            have HN4 := Lib.hid h4
            obtain ⟨d0, d1, d2, d3, d4⟩ := HCL.out _ h4.below
            clear h4
            have SL1 := fun W => slice_upto (some ⟨g3, 0, none⟩) m c3 kk (by omega) hmc hc3 W
            have SL2 := fun W => slice_from g3 m c3 (kk + 1) (by omega) hmc hc3 W
            obtain ⟨A2, hA2⟩ : ∃ A2, (if c3 = kk + 1 then some (⟨g3, 0, none⟩ : Addr) else some ⟨g3, (kk + 1) * 3, none⟩) = A2 := ⟨_, rfl⟩
            rw [hA2] at SL2
            have HR1 : Hid (LsAt w4 (.slice (some ⟨g3, 0, none⟩) kk c3) (N.q.take kk) (fun i => i = g3)) := Lib.hid (HN4.out.row.upto (by rw [HM.out]; omega))
            have HR2 : Hid (LsAt w4 (.slice A2 (m - (kk + 1)) (c3 - (kk + 1))) (N.q.drop (kk + 1)) (fun i => i = g3)) := Lib.hid (by
              have := HN4.out.row.from (k := kk + 1) (by rw [HM.out]; omega) A2 hA2
              rw [HM.out] at this
              exact this)
            have hw1 : IntKind.i64.wrap ((kk : Int) + 1) = ((kk + 1 : Nat) : Int) := IntWalk.i64_in _ (by omega)
            have HLN1 : Hid ((N.q.take kk).length ≤ 1000) := Lib.hid (by have := HQ.out.many; rw [List.length_take]; omega)
            have HLN2 : Hid ((N.q.take kk).length + (N.q.drop (kk + 1)).length ≤ 1000) := Lib.hid (by have := HQ.out.many; rw [List.length_take, List.length_drop]; omega)
            obtain ⟨qa, hqa⟩ : ∃ qa, N.q.take kk = qa := ⟨_, rfl⟩
            obtain ⟨qb, hqb⟩ : ∃ qb, N.q.drop (kk + 1) = qb := ⟨_, rfl⟩
            rw [hqa] at HN4 HR1 HLN1 HLN2
            rw [hqb] at HN4 HR2 HLN2
            clear hqa hqb hA2 HTK
            obtain ⟨k1', hk1'⟩ : ∃ k1', kk + 1 = k1' := ⟨_, rfl⟩
            rw [hk1'] at SL2 HR2 hw1
            obtain ⟨n2, hn2⟩ : ∃ n2, m - k1' = n2 := ⟨_, rfl⟩
            obtain ⟨cc2, hcc2⟩ : ∃ cc2, c3 - k1' = cc2 := ⟨_, rfl⟩
            rw [hn2, hcc2] at SL2 HR2
            clear hn2 hcc2 hk1'
            go_wp2_with fail
            go_region_law (first
              | ((refine step_appL (by rfl) (.tmp 83) (.tmp 87) (by rfl) w4.heap.size w4 v5 _ (by rfl) (ho5.out.belows (by repeat (first | exact Below.refl _ _ | exact hb5.out | refine Below.drew ?_ | refine bel_alloc ?_ _))) _ _ _ (by rfl) (HR2.out.belows (by repeat (first | exact Below.refl _ _ | exact hb5.out | refine Below.drew ?_ | refine bel_alloc ?_ _))) (by have := HLN2.out; simp; omega) (by repeat (first | exact Below.refl _ _ | exact hb5.out | refine Below.drew ?_ | refine bel_alloc ?_ _)) (by have := hb5.out.size; simp; omega) ?_); intro v6 w6 ho6 hb6 hg6)
              | ((refine step_appL (by rfl) (.tmp 79) (.tmp 82) (by rfl) w4.heap.size w4 _ [] (by rfl) (OwnL.fresh (by first | exact hp_new (by first | rfl | simp) | exact hp_old (hp_new (by first | rfl | simp))) (by simp)) _ _ _ (by rfl) (HR1.out.belows (by repeat (first | exact Below.refl _ _ | refine Below.drew ?_ | refine bel_alloc ?_ _))) (by have := HLN1.out; simp; omega) (by repeat (first | exact Below.refl _ _ | refine Below.drew ?_ | refine bel_alloc ?_ _)) (by first | (simp; done) | (simp; omega)) ?_); intro v5 w5 ho5 hb5 hg5))
            all_goals
              have HN6 := Lib.hid (HN4.out.after hb6.out)
              have HR6 : Hid (LsAt w6 v6 (qa ++ qb) _) := Lib.hid ho6.out.at'
              go_wp2_with fail
              refine (nc_ways HN6.out.net).mono ?_
              clear d0 d1 d2 d3 d4
              rintro e w7 ⟨A7, m7, c7, rfl, o7, hb7, hn7⟩
              have HN7 := Lib.hid (hn7.fewer (H' := fun _ => False) fun k hk => hk.elim)
              have HSM := Lib.hid (same_yes o7.at' (HR6.out.belows hb7))
              clear o7 hb7 hn7
              go_wp2_with fail
              refine HSM.out.mono ?_
              rintro e w8 ⟨rfl, hb8⟩
              have HN8 := Lib.hid (HN7.out.after hb8)
              clear hb8
              go_wp2_with fail
              go_roundw
              case rel => exact ⟨i + 1, _, rfl, by omega, HN8⟩
              case measure => simp [numOf]; omega
          · have hrem : (N.take yn).1 = N := by
              unfold Net.take
              rw [at_none (by rw [HM.out]; omega)]
            rw [hrem] at HTK
            have hat2 : yn < 0 ∨ (0 ≤ yn ∧ (m : Int) ≤ yn) := by omega
            clear hrem hat3 hin
            rcases hat2 with ⟨t0⟩ | ⟨t0, t1⟩
            all_goals
              go_wp2_with fail
              refine HL.out.mono ?_
              rintro e w3 ⟨A3, c3, rfl, h3⟩
              have HN3 := Lib.hid h3
              obtain ⟨d0, d1, d2, d3, d4⟩ := HCL.out _ h3.below
              clear h3
              go_wp2_with fail
              refine (HTK.out _ _ HN3.out).mono ?_
              clear d0 d1 d2 d3 d4
              rintro e w4 ⟨rfl, h4⟩
              have HN4 := Lib.hid h4
              obtain ⟨d0, d1, d2, d3, d4⟩ := HCL.out _ h4.below
              clear h4
              have HN6 := HN4
              have HR6 := Lib.hid HN4.out.row.at'
              go_wp2_with fail
              refine (nc_ways HN6.out.net).mono ?_
              clear d0 d1 d2 d3 d4
              rintro e w7 ⟨A7, m7, c7, rfl, o7, hb7, hn7⟩
              have HN7 := Lib.hid (hn7.fewer (H' := fun _ => False) fun k hk => hk.elim)
              have HSM := Lib.hid (same_yes o7.at' (HR6.out.belows hb7))
              clear o7 hb7 hn7
              go_wp2_with fail
              refine HSM.out.mono ?_
              rintro e w8 ⟨rfl, hb8⟩
              have HN8 := Lib.hid (HN7.out.after hb8)
              clear hb8
              go_wp2_with fail
              go_roundw
              case rel => exact ⟨i + 1, _, rfl, by omega, HN8⟩
              case measure => simp [numOf]; omega
        · have h1' : (yk == 1) = false := beq_eq_false_iff_ne.2 h1
          by_cases h3 : yk = 3
          · subst h3
            have HTK : Hid (∀ w4 gv, NG w w4 b N gv N.q → Calls Try.prog 16 #[.pointer (some ⟨b, 0, none⟩), .int .i64 yn] w4 fun e w' => e = .returned (.int .i64 (N.drop yn).2) ∧ NG w w' b (N.drop yn).1 gv N.q) := Lib.hid fun w4 gv h => ng_drop h yn n0 n1
            generalize (N.drop yn).2 = rc at HTK
            by_cases hin : 0 ≤ yn ∧ yn < (m : Int)
            · obtain ⟨t0, t1⟩ := hin
              obtain ⟨kk, rfl⟩ : ∃ kk : Nat, yn = (kk : Int) := ⟨yn.toNat, by omega⟩
              have hkm : kk < m := by omega
              have hrem : (N.drop (kk : Int)).1 = ⟨N.q.take kk ++ N.q.drop (kk + 1), N.s⟩ := by
                unfold Net.drop
                rw [at_some (by rw [HM.out]; omega)]
                show Net.rem N (kk : Int) = _
                unfold Net.rem
                rw [Int.toNat_natCast, List.eraseIdx_eq_take_drop_succ]
              rw [hrem] at HTK
              clear hrem hat3
              go_wp2_with fail
              refine HL.out.mono ?_
              rintro e w3 ⟨A3, c3, rfl, h3⟩
              have HN3 := Lib.hid h3
              obtain ⟨d0, d1, d2, d3, d4⟩ := HCL.out _ h3.below
              clear h3
              obtain ⟨g3, rfl⟩ : ∃ g3, A3 = some ⟨g3, 0, none⟩ := by
                rcases HN3.out.row.2 with ⟨_, hq⟩ | ⟨g, cap, cur, e, _⟩
                · exfalso; rw [HM.out] at hq; omega
                · injection e with e _ _; exact ⟨g, e⟩
              obtain ⟨hmc, hc3⟩ : m ≤ c3 ∧ c3 ≤ 9223372036854775807 := by
                obtain ⟨A', c', e, f1, f2, _⟩ := HN3.out.row.form
                injection e with e1 e2 e3
                rw [HM.out] at f1
                omega
              go_wp2_with fail
              refine (HTK.out _ _ HN3.out).mono ?_
              clear d0 d1 d2 d3 d4
              rintro e w4 ⟨rfl, h4⟩
              have HN4 := Lib.hid h4
              obtain ⟨d0, d1, d2, d3, d4⟩ := HCL.out _ h4.below
              clear h4
              have SL1 := fun W => slice_upto (some ⟨g3, 0, none⟩) m c3 kk (by omega) hmc hc3 W
              have SL2 := fun W => slice_from g3 m c3 (kk + 1) (by omega) hmc hc3 W
              obtain ⟨A2, hA2⟩ : ∃ A2, (if c3 = kk + 1 then some (⟨g3, 0, none⟩ : Addr) else some ⟨g3, (kk + 1) * 3, none⟩) = A2 := ⟨_, rfl⟩
              rw [hA2] at SL2
              have HR1 : Hid (LsAt w4 (.slice (some ⟨g3, 0, none⟩) kk c3) (N.q.take kk) (fun i => i = g3)) := Lib.hid (HN4.out.row.upto (by rw [HM.out]; omega))
              have HR2 : Hid (LsAt w4 (.slice A2 (m - (kk + 1)) (c3 - (kk + 1))) (N.q.drop (kk + 1)) (fun i => i = g3)) := Lib.hid (by
                have := HN4.out.row.from (k := kk + 1) (by rw [HM.out]; omega) A2 hA2
                rw [HM.out] at this
                exact this)
              have hw1 : IntKind.i64.wrap ((kk : Int) + 1) = ((kk + 1 : Nat) : Int) := IntWalk.i64_in _ (by omega)
              have HLN1 : Hid ((N.q.take kk).length ≤ 1000) := Lib.hid (by have := HQ.out.many; rw [List.length_take]; omega)
              have HLN2 : Hid ((N.q.take kk).length + (N.q.drop (kk + 1)).length ≤ 1000) := Lib.hid (by have := HQ.out.many; rw [List.length_take, List.length_drop]; omega)
              obtain ⟨qa, hqa⟩ : ∃ qa, N.q.take kk = qa := ⟨_, rfl⟩
              obtain ⟨qb, hqb⟩ : ∃ qb, N.q.drop (kk + 1) = qb := ⟨_, rfl⟩
              rw [hqa] at HN4 HR1 HLN1 HLN2
              rw [hqb] at HN4 HR2 HLN2
              clear hqa hqb hA2 HTK
              obtain ⟨k1', hk1'⟩ : ∃ k1', kk + 1 = k1' := ⟨_, rfl⟩
              rw [hk1'] at SL2 HR2 hw1
              obtain ⟨n2, hn2⟩ : ∃ n2, m - k1' = n2 := ⟨_, rfl⟩
              obtain ⟨cc2, hcc2⟩ : ∃ cc2, c3 - k1' = cc2 := ⟨_, rfl⟩
              rw [hn2, hcc2] at SL2 HR2
              clear hn2 hcc2 hk1'
              go_wp2_with fail
              go_region_law (first
                | ((refine step_appL (by rfl) (.tmp 83) (.tmp 87) (by rfl) w4.heap.size w4 v5 _ (by rfl) (ho5.out.belows (by repeat (first | exact Below.refl _ _ | exact hb5.out | refine Below.drew ?_ | refine bel_alloc ?_ _))) _ _ _ (by rfl) (HR2.out.belows (by repeat (first | exact Below.refl _ _ | exact hb5.out | refine Below.drew ?_ | refine bel_alloc ?_ _))) (by have := HLN2.out; simp; omega) (by repeat (first | exact Below.refl _ _ | exact hb5.out | refine Below.drew ?_ | refine bel_alloc ?_ _)) (by have := hb5.out.size; simp; omega) ?_); intro v6 w6 ho6 hb6 hg6)
                | ((refine step_appL (by rfl) (.tmp 79) (.tmp 82) (by rfl) w4.heap.size w4 _ [] (by rfl) (OwnL.fresh (by first | exact hp_new (by first | rfl | simp) | exact hp_old (hp_new (by first | rfl | simp))) (by simp)) _ _ _ (by rfl) (HR1.out.belows (by repeat (first | exact Below.refl _ _ | refine Below.drew ?_ | refine bel_alloc ?_ _))) (by have := HLN1.out; simp; omega) (by repeat (first | exact Below.refl _ _ | refine Below.drew ?_ | refine bel_alloc ?_ _)) (by first | (simp; done) | (simp; omega)) ?_); intro v5 w5 ho5 hb5 hg5))
              all_goals
                have HN6 := Lib.hid (HN4.out.after hb6.out)
                have HR6 : Hid (LsAt w6 v6 (qa ++ qb) _) := Lib.hid ho6.out.at'
                go_wp2_with fail
                refine (nc_ways HN6.out.net).mono ?_
                clear d0 d1 d2 d3 d4
                rintro e w7 ⟨A7, m7, c7, rfl, o7, hb7, hn7⟩
                have HN7 := Lib.hid (hn7.fewer (H' := fun _ => False) fun k hk => hk.elim)
                have HSM := Lib.hid (same_yes o7.at' (HR6.out.belows hb7))
                clear o7 hb7 hn7
                go_wp2_with fail
                refine HSM.out.mono ?_
                rintro e w8 ⟨rfl, hb8⟩
                have HN8 := Lib.hid (HN7.out.after hb8)
                clear hb8
                go_wp2_with fail
                go_roundw
                case rel => exact ⟨i + 1, _, rfl, by omega, HN8⟩
                case measure => simp [numOf]; omega
            · have hrem : (N.drop yn).1 = N := by
                unfold Net.drop
                rw [at_none (by rw [HM.out]; omega)]
              rw [hrem] at HTK
              have hat2 : yn < 0 ∨ (0 ≤ yn ∧ (m : Int) ≤ yn) := by omega
              clear hrem hat3 hin
              rcases hat2 with ⟨t0⟩ | ⟨t0, t1⟩
              all_goals
                go_wp2_with fail
                refine HL.out.mono ?_
                rintro e w3 ⟨A3, c3, rfl, h3⟩
                have HN3 := Lib.hid h3
                obtain ⟨d0, d1, d2, d3, d4⟩ := HCL.out _ h3.below
                clear h3
                go_wp2_with fail
                refine (HTK.out _ _ HN3.out).mono ?_
                clear d0 d1 d2 d3 d4
                rintro e w4 ⟨rfl, h4⟩
                have HN4 := Lib.hid h4
                obtain ⟨d0, d1, d2, d3, d4⟩ := HCL.out _ h4.below
                clear h4
                have HN6 := HN4
                have HR6 := Lib.hid HN4.out.row.at'
                go_wp2_with fail
                refine (nc_ways HN6.out.net).mono ?_
                clear d0 d1 d2 d3 d4
                rintro e w7 ⟨A7, m7, c7, rfl, o7, hb7, hn7⟩
                have HN7 := Lib.hid (hn7.fewer (H' := fun _ => False) fun k hk => hk.elim)
                have HSM := Lib.hid (same_yes o7.at' (HR6.out.belows hb7))
                clear o7 hb7 hn7
                go_wp2_with fail
                refine HSM.out.mono ?_
                rintro e w8 ⟨rfl, hb8⟩
                have HN8 := Lib.hid (HN7.out.after hb8)
                clear hb8
                go_wp2_with fail
                go_roundw
                case rel => exact ⟨i + 1, _, rfl, by omega, HN8⟩
                case measure => simp [numOf]; omega
          · have h3' : (yk == 3) = false := beq_eq_false_iff_ne.2 h3
            by_cases h2 : yk = 2
            · subst h2
              have HCY : Hid (∀ w4 gv, NG w w4 b N gv N.q → Calls Try.prog 14 #[.pointer (some ⟨b, 0, none⟩), .int .i64 yn] w4 fun e w' => e = .returned (.int .i64 (N.copy yn).2) ∧ NG w w' b (N.copy yn).1 gv N.q) := Lib.hid fun w4 gv h => ng_copy h yn n0 n1
              by_cases hyes : (0 ≤ yn ∧ yn < (m : Int)) ∧ m < 400
              · obtain ⟨⟨t0, t1⟩, hful⟩ := hyes
                obtain ⟨kk, rfl⟩ : ∃ kk : Nat, yn = (kk : Int) := ⟨yn.toNat, by omega⟩
                have hkm : kk < m := by omega
                obtain ⟨l, hl⟩ : ∃ l, N.q[kk]? = some l := ⟨_, List.getElem?_eq_getElem (by rw [HM.out]; omega)⟩
                have hcp : N.copy (kk : Int) = (⟨N.q ++ [l], N.s⟩, 0) := by
                  obtain ⟨hlt, hll⟩ := List.getElem?_eq_some_iff.1 hl
                  unfold Net.copy
                  rw [at_some hlt, hll]
                  show N.put l = _
                  unfold Net.put
                  rw [if_neg (by rw [HM.out]; omega)]
                rw [hcp] at HCY
                have HLL := Lib.hid hl
                clear hcp hat3 hl hful
                go_wp2_with fail
                refine HL.out.mono ?_
                rintro e w3 ⟨A3, c3, rfl, h3⟩
                have HN3 := Lib.hid h3
                obtain ⟨d0, d1, d2, d3, d4⟩ := HCL.out _ h3.below
                clear h3
                go_wp2_with fail
                refine (HCY.out _ _ HN3.out).mono ?_
                clear d0 d1 d2 d3 d4
                rintro e w4 ⟨rfl, h4⟩
                have HN4 := Lib.hid h4
                obtain ⟨d0, d1, d2, d3, d4⟩ := HCL.out _ h4.below
                clear h4
                obtain ⟨g3, o3, cx, e3, _, hg3, x0, x1, x2⟩ := HN4.out.row.at'.one HLL.out
                injection e3 with e3 e4 e5
                clear e4
                subst e3 e5
                have HG3 : Hid (∀ W' : World, Below w4.heap.size w4 W' → W'.cell? ⟨g3, o3 + kk * 3, none⟩ = some (.int .i64 l.f) ∧ W'.cell? ⟨g3, o3 + kk * 3 + 1, none⟩ = some (.int .i64 l.t) ∧ W'.cell? ⟨g3, o3 + kk * 3 + 2, none⟩ = some (.string l.b)) := Lib.hid fun W' hb' => ⟨(hb'.cell (p := ⟨g3, o3 + kk * 3, none⟩) hg3).trans x0, (hb'.cell (p := ⟨g3, o3 + kk * 3 + 1, none⟩) hg3).trans x1, (hb'.cell (p := ⟨g3, o3 + kk * 3 + 2, none⟩) hg3).trans x2⟩
                have HLN : Hid (N.q.length + 1 ≤ 1000000) := Lib.hid (by have := HQ.out.many; omega)
                clear HCY
                go_wp2_with fail
                go_region_law (first
                  | ((refine step_appL (by rfl) (.tmp 100) (.tmp 105) (by rfl) w4.heap.size w4 v5 _ (by rfl) (ho5.out.belows (by repeat (first | exact Below.refl _ _ | exact hb5.out | refine Below.drew ?_ | refine bel_alloc ?_ _))) _ [l] _ (by rfl) (LsAt.box1 (by first | exact hp_new (by first | rfl | simp) | exact (hg5.out.block _ (by first | (simp; done) | (simp; omega)) (by simp [Value.ownBlock])).trans (by first | exact hp_new (by first | rfl | simp) | exact hp_old (hp_new (by first | rfl | simp))))) (by have := HLN.out; simp; omega) (by repeat (first | exact Below.refl _ _ | exact hb5.out | refine Below.drew ?_ | refine bel_alloc ?_ _)) (by have := hb5.out.size; simp; omega) ?_); intro v6 w6 ho6 hb6 hg6)
                  | ((refine step_appL (by rfl) (.tmp 98) (.tmp 99) (by rfl) w4.heap.size w4 _ [] (by rfl) (OwnL.fresh (by first | exact hp_new (by first | rfl | simp) | exact hp_old (hp_new (by first | rfl | simp))) (by simp)) _ _ _ (by rfl) (HN4.out.row.at'.belows (by repeat (first | exact Below.refl _ _ | refine Below.drew ?_ | refine bel_alloc ?_ _))) (by have := HLN.out; simp; omega) (by repeat (first | exact Below.refl _ _ | refine Below.drew ?_ | refine bel_alloc ?_ _)) (by first | (simp; done) | (simp; omega)) ?_); intro v5 w5 ho5 hb5 hg5; obtain ⟨d7, d8, d9⟩ := HG3.out _ hb5.out))
                all_goals
                  clear d7 d8 d9
                  have HN6 := Lib.hid (HN4.out.after hb6.out)
                  have HR6 : Hid (LsAt w6 v6 (N.q ++ [l]) _) := Lib.hid ho6.out.at'
                  go_wp2_with fail
                  refine (nc_ways HN6.out.net).mono ?_
                  clear d0 d1 d2 d3 d4
                  rintro e w7 ⟨A7, m7, c7, rfl, o7, hb7, hn7⟩
                  have HN7 := Lib.hid (hn7.fewer (H' := fun _ => False) fun k hk => hk.elim)
                  have HSM := Lib.hid (same_yes o7.at' (HR6.out.belows hb7))
                  clear o7 hb7 hn7
                  go_wp2_with fail
                  refine HSM.out.mono ?_
                  rintro e w8 ⟨rfl, hb8⟩
                  have HN8 := Lib.hid (HN7.out.after hb8)
                  clear hb8
                  go_wp2_with fail
                  go_roundw
                  case rel => exact ⟨i + 1, _, rfl, by omega, HN8⟩
                  case measure => simp [numOf]; omega
              · have e : ∃ code : Int, N.copy yn = (N, code) ∧ (code = 0 → False) := by
                  unfold Net.copy
                  by_cases hin : 0 ≤ yn ∧ yn < (m : Int)
                  · obtain ⟨kk, rfl⟩ : ∃ kk : Nat, yn = (kk : Int) := ⟨yn.toNat, by omega⟩
                    rw [at_some (by rw [HM.out]; omega)]
                    exact ⟨40, by show N.put _ = _; unfold Net.put; rw [if_pos (by rw [HM.out]; exact Nat.le_of_not_lt fun q => hyes ⟨hin, q⟩)], fun q => (by cases q)⟩
                  · rw [at_none (by rw [HM.out]; omega)]
                    exact ⟨10, rfl, fun q => (by cases q)⟩
                obtain ⟨code, hcp, hc0⟩ := e
                have hc1 : (code == 0) = false := beq_eq_false_iff_ne.2 hc0
                rw [hcp] at HCY
                clear hcp hyes
                rcases hat3 with ⟨t0⟩ | ⟨t0, t1⟩ | ⟨t0, t1⟩
                all_goals
                  go_wp2_with fail
                  refine HL.out.mono ?_
                  rintro e w3 ⟨A3, c3, rfl, h3⟩
                  have HN3 := Lib.hid h3
                  obtain ⟨d0, d1, d2, d3, d4⟩ := HCL.out _ h3.below
                  clear h3
                  go_wp2_with fail
                  refine (HCY.out _ _ HN3.out).mono ?_
                  clear d0 d1 d2 d3 d4
                  rintro e w4 ⟨rfl, h4⟩
                  have HN4 := Lib.hid h4
                  obtain ⟨d0, d1, d2, d3, d4⟩ := HCL.out _ h4.below
                  clear h4
                  have HN6 := HN4
                  have HR6 := Lib.hid HN4.out.row.at'
                  go_wp2_with fail
                  refine (nc_ways HN6.out.net).mono ?_
                  clear d0 d1 d2 d3 d4
                  rintro e w7 ⟨A7, m7, c7, rfl, o7, hb7, hn7⟩
                  have HN7 := Lib.hid (hn7.fewer (H' := fun _ => False) fun k hk => hk.elim)
                  have HSM := Lib.hid (same_yes o7.at' (HR6.out.belows hb7))
                  clear o7 hb7 hn7
                  go_wp2_with fail
                  refine HSM.out.mono ?_
                  rintro e w8 ⟨rfl, hb8⟩
                  have HN8 := Lib.hid (HN7.out.after hb8)
                  clear hb8
                  go_wp2_with fail
                  go_roundw
                  case rel => exact ⟨i + 1, _, rfl, by omega, HN8⟩
                  case measure => simp [numOf]; omega
            · have h2' : (yk == 2) = false := beq_eq_false_iff_ne.2 h2
              by_cases h4 : yk = 4
              · subst h4
                have HSP : Hid (∀ w4 gv, NG w w4 b N gv N.q → Calls Try.prog 18 #[.pointer (some ⟨b, 0, none⟩), .int .i64 yn] w4 fun e w' => e = .returned (.tuple #[]) ∧ NG w w' b (N.split yn) gv N.q) := Lib.hid fun w4 gv h => ng_split h yn n0 n1
                rcases hat3 with ⟨t0⟩ | ⟨t0, t1⟩ | ⟨t0, t1⟩
                all_goals
                  go_wp2_with fail
                  refine HL.out.mono ?_
                  rintro e w3 ⟨A3, c3, rfl, h3⟩
                  have HN3 := Lib.hid h3
                  obtain ⟨d0, d1, d2, d3, d4⟩ := HCL.out _ h3.below
                  clear h3
                  go_wp2_with fail
                  refine (HSP.out _ _ HN3.out).mono ?_
                  clear d0 d1 d2 d3 d4
                  rintro e w4 ⟨rfl, h4⟩
                  have HN4 := Lib.hid h4
                  obtain ⟨d0, d1, d2, d3, d4⟩ := HCL.out _ h4.below
                  clear h4
                  have HN6 := HN4
                  have HR6 := Lib.hid (show LsAt w4 _ (N.split yn).q _ from HN4.out.row.at')
                  go_wp2_with fail
                  refine (nc_ways HN6.out.net).mono ?_
                  clear d0 d1 d2 d3 d4
                  rintro e w7 ⟨A7, m7, c7, rfl, o7, hb7, hn7⟩
                  have HN7 := Lib.hid (hn7.fewer (H' := fun _ => False) fun k hk => hk.elim)
                  have HSM := Lib.hid (same_yes o7.at' (HR6.out.belows hb7))
                  clear o7 hb7 hn7
                  go_wp2_with fail
                  refine HSM.out.mono ?_
                  rintro e w8 ⟨rfl, hb8⟩
                  have HN8 := Lib.hid (HN7.out.after hb8)
                  clear hb8
                  go_wp2_with fail
                  go_roundw
                  case rel => exact ⟨i + 1, _, rfl, by omega, HN8⟩
                  case measure => simp [numOf]; omega
              · have h4' : (yk == 4) = false := beq_eq_false_iff_ne.2 h4
                rcases hat3 with ⟨t0⟩ | ⟨t0, t1⟩ | ⟨t0, t1⟩
                all_goals
                  go_wp2_with fail
                  refine HL.out.mono ?_
                  rintro e w3 ⟨A3, c3, rfl, h3⟩
                  have HN3 := Lib.hid h3
                  obtain ⟨d0, d1, d2, d3, d4⟩ := HCL.out _ h3.below
                  clear h3
                  have HN6 := HN3
                  have HR6 := Lib.hid HN3.out.row.at'
                  go_wp2_with fail
                  refine (nc_ways HN6.out.net).mono ?_
                  clear d0 d1 d2 d3 d4
                  rintro e w7 ⟨A7, m7, c7, rfl, o7, hb7, hn7⟩
                  have HN7 := Lib.hid (hn7.fewer (H' := fun _ => False) fun k hk => hk.elim)
                  have HSM := Lib.hid (same_yes o7.at' (HR6.out.belows hb7))
                  clear o7 hb7 hn7
                  go_wp2_with fail
                  refine HSM.out.mono ?_
                  rintro e w8 ⟨rfl, hb8⟩
                  have HN8 := Lib.hid (HN7.out.after hb8)
                  clear hb8
                  go_wp2_with fail
                  go_roundw
                  case rel => exact ⟨i + 1, _, rfl, by omega, HN8⟩
                  case measure => simp [numOf]; omega
    · have hil2 : (xs.length : Int) ≤ (i : Int) ∨ ((i : Int) < (xs.length : Int) ∧ (500 : Int) ≤ (i : Int)) := by omega
      rcases hil2 with h1 | ⟨h1, h2⟩
      all_goals
        go_wp2_with fail
        go_ret
        exact ⟨rfl, hn.out.below⟩
end Go.Proofs.Ytipclhklkngamaa
