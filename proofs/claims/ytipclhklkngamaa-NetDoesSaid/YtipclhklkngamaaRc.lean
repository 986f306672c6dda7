import Derived.Test.YtipclhklkngamaaRb
namespace Go.Proofs.Ytipclhklkngamaa
open Go.RowKit
set_option linter.unusedVariables false

set_option maxHeartbeats 4000000 in
set_option maxRecDepth 100000 in
theorem rdrop_any {w : World} {B b : Nat} {N : Net} {v : Value} (h : RefAt w B b N v) (k : Int) (k0 : -9223372036854775808 ≤ k) (k1 : k ≤ 9223372036854775807) :
    Calls Try.prog 17 #[.pointer (some ⟨b, 0, none⟩), .int .i64 k] w fun e w' => e = .returned (.int .i64 (N.drop k).2) ∧ RTo w w' B b v (N.drop k).1 := by
  have c0 := h.queue
  have hblt := h.lt
  have H := Lib.hid h
  obtain ⟨A, cap, rfl, h1, h2, h3⟩ := h.row.form
  have hm := h.ok.many
  have hml : (N.q.length : Int) ≤ 400 := by omega
  have HT : Hid (RTo w w B b (.slice A N.q.length cap) N) := Lib.hid h.stays
  by_cases hin : 0 ≤ k ∧ k < (N.q.length : Int)
  · obtain ⟨t0, t1⟩ := hin
    obtain ⟨kk, rfl⟩ : ∃ kk : Nat, k = (kk : Int) := ⟨k.toNat, by omega⟩
    have hkm : kk < N.q.length := by omega
    obtain ⟨g3, rfl⟩ : ∃ g3, A = some ⟨g3, 0, none⟩ := by
      rcases h.row.2 with ⟨_, hq⟩ | ⟨g, cap, cur, e, _⟩
      · omega
      · injection e with e _ _; exact ⟨g, e⟩
    have hd : N.drop (kk : Int) = (⟨N.q.take kk ++ N.q.drop (kk + 1), N.s⟩, 0) := by
      unfold Net.drop
      rw [at_some hkm]
      show (Net.rem N (kk : Int), (0 : Int)) = _
      unfold Net.rem
      rw [Int.toNat_natCast, List.eraseIdx_eq_take_drop_succ]
    have hok := Net.drop_ok h.ok (kk : Int)
    rw [hd] at hok ⊢
    have SL1 := fun W => slice_upto (some ⟨g3, 0, none⟩) N.q.length cap kk (by omega) h1 h2 W
    have SL2 := fun W => slice_from g3 N.q.length cap (kk + 1) (by omega) h1 h2 W
    obtain ⟨A2, hA2⟩ : ∃ A2, (if cap = kk + 1 then some (⟨g3, 0, none⟩ : Addr) else some ⟨g3, (kk + 1) * 3, none⟩) = A2 := ⟨_, rfl⟩
    rw [hA2] at SL2
    have HR1 : Hid (LsAt w (.slice (some ⟨g3, 0, none⟩) kk cap) (N.q.take kk) (fun i => i = g3)) := Lib.hid (h.row.upto (by omega))
    have HR2 : Hid (LsAt w (.slice A2 (N.q.length - (kk + 1)) (cap - (kk + 1))) (N.q.drop (kk + 1)) (fun i => i = g3)) := Lib.hid (h.row.from (by omega) A2 hA2)
    have hw1 : IntKind.i64.wrap ((kk : Int) + 1) = ((kk + 1 : Nat) : Int) := IntWalk.i64_in _ (by omega)
    have HLN1 : Hid (∀ q, q = N.q.take kk → ([] : List Let).length + q.length ≤ 1000000) := Lib.hid (by rintro q rfl; rw [List.length_take]; simp; omega)
    have HLN2 : Hid (∀ q r, q = N.q.take kk → r = N.q.drop (kk + 1) → ([] ++ q).length + r.length ≤ 1000000) := Lib.hid (by rintro q r rfl rfl; rw [List.nil_append, List.length_take, List.length_drop]; omega)
    have ST : Hid (∀ v6 w6, OwnL w6 w.heap.size v6 (N.q.take kk ++ N.q.drop (kk + 1)) → Below w.heap.size w w6 → (∃ A c n, v6 = .slice A n c) ∧ (∃ u, w6.cell? ⟨b, 0, none⟩ = some u) ∧ w6.frozen? ⟨b, 0, none⟩ = false ∧ RTo w (w6.setCell ⟨b, 0, none⟩ v6) B b (.slice (some ⟨g3, 0, none⟩) N.q.length cap) ⟨N.q.take kk ++ N.q.drop (kk + 1), N.s⟩) := Lib.hid fun v6 w6 q1 q2 => h.made (Below.refl _ w) hok q1 q2
    have HB5 : Hid (∀ w5 : World, Below w.heap.size w w5 → w5.cell? ⟨b, 0, none⟩ = some (.slice (some ⟨g3, 0, none⟩) N.q.length cap)) := Lib.hid fun w5 hb => (hb.cell (p := ⟨b, 0, none⟩) hblt).trans c0
    obtain ⟨k1', hk1'⟩ : ∃ k1', kk + 1 = k1' := ⟨_, rfl⟩
    rw [hk1'] at SL2 HR2 hw1 ST HLN2 ⊢
    clear h h3 hm hd hok hA2 hk1'
    obtain ⟨qa, hqa⟩ : ∃ qa, N.q.take kk = qa := ⟨_, rfl⟩
    obtain ⟨qb, hqb⟩ : ∃ qb, N.q.drop k1' = qb := ⟨_, rfl⟩
    rw [hqa] at HR1 ST HLN1 HLN2 ⊢
    rw [hqb] at HR2 ST HLN2 ⊢
    clear hqa hqb
    generalize hnn : N.q.length = n at *
    clear hnn
    obtain ⟨n2, hn2⟩ : ∃ n2, n - k1' = n2 := ⟨_, rfl⟩
    obtain ⟨cc2, hcc2⟩ : ∃ cc2, cap - k1' = cc2 := ⟨_, rfl⟩
    rw [hn2, hcc2] at SL2 HR2
    clear hn2 hcc2
    go_enter Try.func17, Try.ntmps17
    go_wp2_with fail
    go_region_law (first
      | ((refine step_appL (by rfl) (.tmp 24) (.tmp 31) (by rfl) w.heap.size w v5 _ (by rfl) (ho5.out.belows (by repeat (first | exact Below.refl _ _ | exact hb5.out | refine Below.drew ?_ | refine bel_alloc ?_ _))) _ _ _ (by rfl) (HR2.out.belows (by repeat (first | exact Below.refl _ _ | exact hb5.out | refine Below.drew ?_ | refine bel_alloc ?_ _))) (HLN2.out _ _ rfl rfl) (by repeat (first | exact Below.refl _ _ | exact hb5.out | refine Below.drew ?_ | refine bel_alloc ?_ _)) (by have := hb5.out.size; simp; omega) ?_); intro v6 w6 ho6 hb6 hg6; obtain ⟨⟨A6, c6, n6, hv6⟩, ⟨u6, y6⟩, z6, TT⟩ := ST.out v6 w6 ho6.out hb6.out; subst hv6; have T6 := Lib.hid TT; clear TT)
      | ((refine step_appL (by rfl) (.tmp 17) (.tmp 23) (by rfl) w.heap.size w _ [] (by rfl) (OwnL.fresh (by first | exact hp_new (by first | rfl | simp) | exact hp_old (hp_new (by first | rfl | simp))) (by simp)) _ _ _ (by rfl) (HR1.out.belows (by repeat (first | exact Below.refl _ _ | refine Below.drew ?_ | refine bel_alloc ?_ _))) (HLN1.out _ rfl) (by repeat (first | exact Below.refl _ _ | refine Below.drew ?_ | refine bel_alloc ?_ _)) (by first | (simp; done) | (simp; omega)) ?_); intro v5 w5 ho5 hb5 hg5; have d5 := HB5.out _ hb5.out))
    all_goals
      go_wp2_with fail
      go_ret
      exact ⟨rfl, T6.out⟩
  · have hd : N.drop k = (N, 10) := by unfold Net.drop; rw [at_none (by omega)]
    rw [hd]
    have hout : k < 0 ∨ (0 ≤ k ∧ (N.q.length : Int) ≤ k) := by omega
    clear h h3 hm hin hd
    generalize N.q.length = n at *
    rcases hout with t0 | ⟨t0, t1⟩
    all_goals
      go_enter Try.func17, Try.ntmps17
      go_wp2_with fail
      go_ret
      exact ⟨rfl, HT.out⟩
set_option maxHeartbeats 1000000 in
set_option maxRecDepth 100000 in
theorem rcopy_any {w : World} {B b : Nat} {N : Net} {v : Value} (h : RefAt w B b N v) (k : Int) (k0 : -9223372036854775808 ≤ k) (k1 : k ≤ 9223372036854775807) :
    Calls Try.prog 15 #[.pointer (some ⟨b, 0, none⟩), .int .i64 k] w fun e w' => e = .returned (.int .i64 (N.copy k).2) ∧ RTo w w' B b v (N.copy k).1 := by
  have c0 := h.queue
  have hblt := h.lt
  obtain ⟨A, cap, rfl, h1, h2, h3⟩ := h.row.form
  have hm := h.ok.many
  have hml : (N.q.length : Int) ≤ 400 := by omega
  have HT : Hid (RTo w w B b (.slice A N.q.length cap) N) := Lib.hid h.stays
  cases hk : N.at' k with
  | none =>
    have hd : N.copy k = (N, 10) := by unfold Net.copy; rw [hk]
    rw [hd]
    have hout : k < 0 ∨ (0 ≤ k ∧ (N.q.length : Int) ≤ k) := by
      by_cases hin : 0 ≤ k ∧ k < (N.q.length : Int)
      · obtain ⟨kk, rfl⟩ : ∃ kk : Nat, k = (kk : Int) := ⟨k.toNat, by omega⟩
        rw [at_some (by omega)] at hk; cases hk
      · omega
    clear h h3 hm hd hk
    generalize N.q.length = n at *
    rcases hout with t0 | ⟨t0, t1⟩
    all_goals
      go_enter Try.func15, Try.ntmps15
      go_wp2_with fail
      go_ret
      exact ⟨rfl, HT.out⟩
  | some l =>
    have hok := h.ok.ok l (Net.at_mem hk)
    have hd : N.copy k = N.send l := by unfold Net.copy Net.send; rw [hk, if_pos hok]
    rw [hd]
    have HC := Lib.hid (rsend_any h l (fit_of_ok hok))
    unfold letV at HC
    obtain ⟨n, rfl, hn, _, g, cap', e, hc, a0, a1, a2⟩ := h.letter hk
    injection e with e1 e2 e3
    clear e2
    subst e1 e3
    have hn2 : (n : Int) < (N.q.length : Int) := by omega
    clear h hk hok hd h3 hm
    generalize N.q.length = m at *
    go_enter Try.func15, Try.ntmps15
    go_wp2_with fail
    refine HC.out.mono ?_
    rintro e w' ⟨rfl, ht⟩
    have HT2 := Lib.hid ht
    clear ht
    go_wp2_with fail
    go_ret
    exact ⟨rfl, HT2.out⟩
end Go.Proofs.Ytipclhklkngamaa
