import Derived.Test.YtlimjfnolidbmaaLg
namespace Go.Proofs.Ytlimjfnolidbmaa
set_option maxRecDepth 20000
open Go.RowKit RL
set_option linter.unusedVariables false
/-! ### a log's terms -/
def tmV (o : Option Int) : Value := .tuple #[.int .i64 (o.getD 0), .bool o.isSome]
set_option maxHeartbeats 2000000 in
theorem term_any {w : World} {b : Nat} {T : Lg} {S : Nat → Prop} (h : Log w b T S) (hI : Inv T) {k : Int} (hk : I64 k) : Calls Try.prog 18 #[.pointer (some ⟨b, 0, none⟩), .int .i64 k] w (RetBelow (tmV (T.term k)) w) := by
  obtain ⟨v, h⟩ := h
  obtain ⟨c0, c1, c2, f0, f1, f2⟩ := lcells h.box
  have HW := Lib.hid (Below.refl w.heap.size w).drew
  have HW2 := Lib.hid (Below.refl w.heap.size w).drew.drew
  obtain ⟨A, cap, rfl, hr, hc, hcap, hn⟩ := h.row.form
  have i0 := hI.i0
  have iM := hI.iM
  have i1 := hI.i1
  obtain ⟨k1, k2⟩ := hk
  have hwr : T.i ≤ k → IntKind.i64.wrap (k - T.i) = k - T.i := fun q => by rw [IntKind.wrap_i64]; omega
  by_cases q1 : k < T.i
  · have g1 : decide (k < T.i) = true := by simpa using q1
    rw [term_lt q1]
    clear h hI
    go_enter Try.func18, Try.ntmps18
    go_wp2_with fail
    go_region
    all_goals go_wp2_with fail
    all_goals refine bodyPost_ret (v := tmV none) (by simp [results, Try.results18, go_sem, tmV]) rfl ⟨rfl, HW.out⟩
  · have g1 : decide (k < T.i) = false := by simpa using q1
    have hwr := hwr (by omega)
    by_cases q2 : (T.L.length : Int) < k - T.i
    · have g2 : decide ((T.L.length : Int) < k - T.i) = true := by simpa using q2
      rw [term_over (by unfold Lg.last; omega)]
      clear h hI
      go_enter Try.func18, Try.ntmps18
      go_wp2_with fail
      go_region
      all_goals go_wp2_with fail
      all_goals refine bodyPost_ret (v := tmV none) (by simp [results, Try.results18, go_sem, tmV]) rfl ⟨rfl, HW.out⟩
    · have g2 : decide ((T.L.length : Int) < k - T.i) = false := by simpa using q2
      by_cases q3 : k = T.i
      · subst q3
        rw [term_base]
        clear h hI
        go_enter Try.func18, Try.ntmps18
        go_wp2_with fail
        go_region
        all_goals go_wp2_with fail
        all_goals refine bodyPost_ret (v := tmV (some T.t)) (by simp [results, Try.results18, go_sem, tmV]) rfl ⟨rfl, HW.out⟩
      · have g3 : (k == T.i) = false := by simpa using q3
        obtain ⟨x, hx, ht⟩ := term_some (T := T) (k := k) (by omega) (by unfold Lg.last; omega)
        rw [ht]
        obtain ⟨p, off, rfl, hp, hpl, hcl⟩ := hr.at_ hx
        generalize hj : (k - T.i - 1).toNat = j at *
        have d0 : w.cell? ⟨p, off + j * 2, none⟩ = some (.int .i64 x.t) := hcl 0 _ rfl
        have e1 : (j : Int) = k - T.i - 1 := by omega
        have HA := Lib.hid (fun (X : World) (hX : X.cell? ⟨b, 0, none⟩ = some (.int .i64 T.i)) => at_any k hX i0 (by omega) k2)
        have l1 : (j : Int) < (T.L.length : Int) := by have := (List.getElem?_eq_some_iff.1 hx).1; omega
        rw [← e1] at HA
        clear h hI hcl hx hj
        clear hn hr hp hpl ht e1
        go_enter Try.func18, Try.ntmps18
        go_wp2_with fail
        go_region
        all_goals go_wp2_with fail
        all_goals go_region_with ((go_at_call 38); (with_reducible refine (HA.out _ ?_).mono ?_); exact c0; rintro e w1 ⟨rfl, rfl⟩)
        all_goals go_wp2_with fail
        all_goals refine bodyPost_ret (v := tmV (some x.t)) (by simp [results, Try.results18, go_sem, tmV]) rfl ⟨rfl, HW2.out⟩
theorem term_is {w : World} {b : Nat} {T : Lg} {S : Nat → Prop} (h : Log w b T S) (hI : Inv T) {k t : Int} (hk : I64 k) (ht : T.term k = some t) : Calls Try.prog 18 #[.pointer (some ⟨b, 0, none⟩), .int .i64 k] w (RetBelow (.tuple #[.int .i64 t, .bool true]) w) := by
  have := term_any h hI hk
  rw [ht] at this
  exact this
theorem term_no {w : World} {b : Nat} {T : Lg} {S : Nat → Prop} (h : Log w b T S) (hI : Inv T) {k : Int} (hk : I64 k) (ht : T.term k = none) : Calls Try.prog 18 #[.pointer (some ⟨b, 0, none⟩), .int .i64 k] w (RetBelow (.tuple #[.int .i64 0, .bool false]) w) := by
  have := term_any h hI hk
  rw [ht] at this
  exact this
/-- the last index, and its term -/
theorem last_any {w : World} {b : Nat} {T : Lg} {S : Nat → Prop} (h : Log w b T S) (hI : Inv T) : Calls Try.prog 29 #[.pointer (some ⟨b, 0, none⟩)] w (RetBelow (.tuple #[.int .i64 T.last, .int .i64 T.lterm]) w) := by
  have H := Lib.hid h
  obtain ⟨v, h⟩ := h
  obtain ⟨c0, c1, c2, f0, f1, f2⟩ := lcells h.box
  have HW := Lib.hid (Below.refl w.heap.size w).drew
  obtain ⟨A, cap, rfl, hr, hc, hcap, hn⟩ := h.row.form
  have i0 := hI.i0
  have iM := hI.iM
  have HT := Lib.hid (term_is (H.out.below HW.out) hI (k := T.last) (by unfold Lg.last I64; omega) (last_known T))
  clear h hI hr
  unfold Lg.last at *
  go_enter Try.func29, Try.ntmps29
  go_wp2_with fail
  go_region
  all_goals go_wp2_with ((go_at_call 18); (with_reducible refine HT.out.mono ?_); rintro e w1 ⟨rfl, hb⟩)
  all_goals refine bodyPost_ret (v := .tuple #[.int .i64 (T.i + (T.L.length : Int)), .int .i64 T.lterm]) (by simp [results, Try.results29, go_sem]) rfl ⟨rfl, HW.out.trans (hb.mono HW.out.size)⟩
theorem newer_any {w : World} {b : Nat} {T : Lg} {S : Nat → Prop} (h : Log w b T S) (hI : Inv T) (k t : Int) : Calls Try.prog 21 #[.pointer (some ⟨b, 0, none⟩), .int .i64 k, .int .i64 t] w (RetBelow (.bool (T.newer k t)) w) := by
  have HT := Lib.hid (last_any h hI)
  clear h hI
  unfold Lg.newer
  by_cases q1 : T.lterm < t
  · have g1 : decide (T.lterm < t) = true := by simpa using q1
    have e : (decide (t > T.lterm) || (decide (t = T.lterm) && decide (k ≥ T.last))) = true := by simp [q1]
    rw [e]
    go_enter Try.func21, Try.ntmps21
    go_wp2_with ((go_at_call 29); (with_reducible refine HT.out.mono ?_); rintro e w1 ⟨rfl, hb⟩)
    go_ret
    exact ⟨rfl, hb⟩
  · have g1 : decide (T.lterm < t) = false := by simpa using q1
    by_cases q2 : t = T.lterm
    · have g2 : (t == T.lterm) = true := by simpa using q2
      have e : (decide (t > T.lterm) || (decide (t = T.lterm) && decide (k ≥ T.last))) = decide (T.last ≤ k) := by simp [q2]
      rw [e]
      go_enter Try.func21, Try.ntmps21
      go_wp2_with ((go_at_call 29); (with_reducible refine HT.out.mono ?_); rintro e w1 ⟨rfl, hb⟩)
      go_ret
      exact ⟨rfl, hb⟩
    · have g2 : (t == T.lterm) = false := by simpa using q2
      have e : (decide (t > T.lterm) || (decide (t = T.lterm) && decide (k ≥ T.last))) = false := by simp [q2]; omega
      rw [e]
      go_enter Try.func21, Try.ntmps21
      go_wp2_with ((go_at_call 29); (with_reducible refine HT.out.mono ?_); rintro e w1 ⟨rfl, hb⟩)
      go_ret
      exact ⟨rfl, hb⟩
end Go.Proofs.Ytlimjfnolidbmaa
