import Derived.Test.YtlimjfnolidbmaaGm
namespace Go.Proofs.Ytlimjfnolidbmaa
set_option maxRecDepth 20000
open Go.RowKit RL
set_option linter.unusedVariables false
/-! ### another base -/
theorem set3_all {w : World} {b : Nat} {a0 a1 a2 : Value} {t : TypeId} (h : w.heap[b]? = some (.cells #[a0, a1, a2] t (0, 0))) (u0 u1 u2 : Value) : (((w.setCell ⟨b, 0, none⟩ u0).setCell ⟨b, 1, none⟩ u1).setCell ⟨b, 2, none⟩ u2).heap[b]? = some (.cells #[u0, u1, u2] t (0, 0)) := by
  rw [heap_set3 _ b 2 u2 u0 u1 a2 t]
  · rfl
  rw [heap_set3 _ b 1 u1 u0 a1 a2 t]
  · rfl
  rw [heap_set3 _ b 0 u0 a0 a1 a2 t h]
  rfl
theorem fr_set3 {S : Nat → Prop} {w0 w : World} {b : Nat} (hf : Fr S w0 w) (hb : S b) (u0 u1 u2 : Value) : Fr S w0 (((w.setCell ⟨b, 0, none⟩ u0).setCell ⟨b, 1, none⟩ u1).setCell ⟨b, 2, none⟩ u2) :=
  ((hf.setCell (.inl hb) u0).setCell (.inl hb) u1).setCell (.inl hb) u2
theorem keep_set3 {w : World} {b k : Nat} (hk : k ≠ b) (u0 u1 u2 : Value) : (((w.setCell ⟨b, 0, none⟩ u0).setCell ⟨b, 1, none⟩ u1).setCell ⟨b, 2, none⟩ u2).heap[k]? = w.heap[k]? := by
  rw [Below.heap_setCell _ _ _ k hk, Below.heap_setCell _ _ _ k hk, Below.heap_setCell _ _ _ k hk]
set_option maxHeartbeats 2000000 in
theorem move_any {w : World} {b : Nat} {T : Lg} {S : Nat → Prop} (h : Log w b T S) (hI : Inv T) {k : Int} (t : Int) (hk : T.i ≤ k) (hk2 : k ≤ 9223372036854775807) : Calls Try.prog 37 #[.pointer (some ⟨b, 0, none⟩), .int .i64 k, .int .i64 t] w fun e w' => e = .returned (.tuple #[]) ∧ LogTo w w' b (T.move k t) S := by
  have i0 := hI.i0
  have iM := hI.iM
  obtain ⟨v, h⟩ := h
  obtain ⟨c0, c1, c2, f0, f1, f2⟩ := lcells h.box
  rcases h.row with ⟨rfl, hL⟩ | ⟨g, off, cap, cur, rfl, hs, hg, hc, hm, hz, ht⟩
  · have hcl : ∀ (w : World) (n c : Nat) ty, (Builtin.clear_ #[22] ty #[.slice none n c]).run Try.prog w = .ok (.tuple #[]) w := fun w n c ty => by simp [Builtin.clear_, run_underlying Try.underlying22]
    have fin : Hid (LogTo w (((w.drew.drew.setCell ⟨b, 0, none⟩ (.int .i64 k)).setCell ⟨b, 1, none⟩ (.int .i64 t)).setCell ⟨b, 2, none⟩ (.slice none 0 0)) b (T.move k t) S) := Lib.hid (by
      have hf := fr_set3 (Fr.refl S w).drew.drew h.own (.int .i64 k) (.int .i64 t) (.slice none 0 0)
      refine ⟨S, ⟨.slice none 0 0, set3_all (show w.drew.drew.heap[b]? = _ from h.box) _ _ _, ?_, h.own, fun k hk => Nat.lt_of_lt_of_le (h.lt k hk) hf.size⟩, fun k hk => .inl hk, hf⟩
      show OwnS DE _ _ _ (T.L.drop _)
      rw [hL, List.drop_nil]
      exact OwnS.nil _ _ _)
    have g1 : ¬ ((T.L.length : Int) < k - T.i) ∨ ((T.L.length : Int) < k - T.i) := by omega
    have hwr : IntKind.i64.wrap (k - T.i) = k - T.i := by rw [IntKind.wrap_i64]; omega
    have hl0 : T.L.length = 0 := by rw [hL]; rfl
    have ge : (0 : Int) < k - T.i ∨ k - T.i = 0 := by omega
    clear h hI hL iM g1
    rcases ge with ge | ge
    · have g2 : ¬ (k - T.i < 0) := by omega
      go_enter Try.func37, Try.ntmps37
      go_wp2_with fail
      go_region
      all_goals go_wp2_with fail
      all_goals go_region
      all_goals go_wp2_with fail
      all_goals go_end0
      all_goals exact ⟨rfl, fin.out⟩
    · rw [ge] at hwr
      go_enter Try.func37, Try.ntmps37
      go_wp2_with fail
      go_region
      all_goals go_wp2_with fail
      all_goals go_region
      all_goals go_wp2_with fail
      all_goals go_end0
      all_goals exact ⟨rfl, fin.out⟩
  · obtain ⟨n, hn, hnl, hnd⟩ : ∃ n : Nat, (k - T.i = (n : Int) ∧ n ≤ T.L.length ∨ (T.L.length : Int) < k - T.i ∧ n = T.L.length) ∧ n ≤ T.L.length ∧ T.L.drop (k - T.i).toNat = T.L.drop n := by
      rcases Int.lt_or_le (T.L.length : Int) (k - T.i) with q | q
      · exact ⟨T.L.length, .inr ⟨q, rfl⟩, Nat.le_refl _, by rw [List.drop_eq_nil_of_le (by omega), List.drop_eq_nil_of_le (Nat.le_refl _)]⟩
      · exact ⟨(k - T.i).toNat, .inl ⟨by omega, by omega⟩, by omega, rfl⟩
    obtain ⟨w2, hcl, hf, hb, ho⟩ := clear_head (c := cap) (h.below (Below.refl w.heap.size w).drew) hnl
    have HBX := Lib.hid (hb.trans (show w.drew.heap[b]? = _ from h.box))
    obtain ⟨d0, d1, d2, e0, e1, e2⟩ := lcells HBX.out
    have nI : (n : Int) ≤ (cap : Int) := by omega
    have nL : (n : Int) ≤ (T.L.length : Int) := by omega
    have hm2 : cap ≤ 9223372036854775807 := by simp only [maxLen] at hm; omega
    have fin : Hid (∀ (q : Addr) (r r2 : Nat), (if cap = n then (⟨g, off, none⟩ : Addr) else ⟨g, off + n * 2, none⟩) = q → T.L.length - n = r → cap - n = r2 → LogTo w (((w2.drew.setCell ⟨b, 0, none⟩ (.int .i64 k)).setCell ⟨b, 1, none⟩ (.int .i64 t)).setCell ⟨b, 2, none⟩ (.slice (some q) r r2)) b (T.move k t) S) := Lib.hid fun q r r2 hq hr1 hr2 => by
      subst hr1 hr2
      have hfw : Fr S w w2 := (Fr.refl S w).drew.trans hf fun i hi => .inl hi
      have hf2 := fr_set3 hfw.drew h.own (.int .i64 k) (.int .i64 t) (.slice (some q) (T.L.length - n) (cap - n))
      refine ⟨S, ⟨_, set3_all (show w2.drew.heap[b]? = _ from HBX.out) _ _ _, ?_, h.own, fun k hk => Nat.lt_of_lt_of_le (h.lt k hk) hf2.size⟩, fun k hk => .inl hk, hf2⟩
      rw [hq] at ho
      show OwnS DE _ _ _ (T.L.drop _)
      rw [hnd]
      exact ho.keep fun j _ q => keep_set3 q.2 _ _ _
    have hlen : T.L.length ≤ cap := hc
    clear hI hg hz ht hc hm hf hb ho hnd h HBX
    rcases hn with ⟨hn1, hn2⟩ | ⟨hn1, hn2⟩
    · have hwr : IntKind.i64.wrap (k - T.i) = (n : Int) := by rw [IntKind.wrap_i64]; omega
      have g1 : ¬ ((T.L.length : Int) < (n : Int)) := by omega
      have g2 : ¬ (T.L.length < n) := by omega
      clear hn1 hn2 hnl iM
      by_cases hcn : cap = n
      · have fin2 := Lib.hid (fin.out _ 0 0 (if_pos hcn) (by omega) (by omega))
        clear fin
        subst hcn
        go_enter Try.func37, Try.ntmps37
        go_wp2_with fail
        go_region
        all_goals go_wp2_with fail
        all_goals go_region
        all_goals go_wp2_with fail
        all_goals go_end0
        all_goals exact ⟨rfl, fin2.out⟩
      · have fin2 := Lib.hid (fin.out _ _ _ (if_neg hcn) rfl rfl)
        clear fin
        go_enter Try.func37, Try.ntmps37
        go_wp2_with fail
        go_region
        all_goals go_wp2_with fail
        all_goals go_region
        all_goals go_wp2_with fail
        all_goals go_end0
        all_goals exact ⟨rfl, fin2.out⟩
    · subst hn2
      have hwr : IntKind.i64.wrap (k - T.i) = k - T.i := by rw [IntKind.wrap_i64]; omega
      clear iM hnl
      by_cases hcn : cap = T.L.length
      · have fin2 := Lib.hid (fin.out _ 0 0 (if_pos hcn) (Nat.sub_self _) (by omega))
        clear fin
        subst hcn
        go_enter Try.func37, Try.ntmps37
        go_wp2_with fail
        go_region
        all_goals go_wp2_with fail
        all_goals go_region
        all_goals go_wp2_with fail
        all_goals go_end0
        all_goals exact ⟨rfl, fin2.out⟩
      · have fin2 := Lib.hid (fin.out _ 0 _ (if_neg hcn) (Nat.sub_self _) rfl)
        clear fin
        go_enter Try.func37, Try.ntmps37
        go_wp2_with fail
        go_region
        all_goals go_wp2_with fail
        all_goals go_region
        all_goals go_wp2_with fail
        all_goals go_end0
        all_goals exact ⟨rfl, fin2.out⟩
end Go.Proofs.Ytlimjfnolidbmaa
