import Derived.Test.YtnnakfhkejdfcaaOpen
namespace Go.Proofs.Ytnnakfhkejdfcaa
open Go.RowKit Pl
set_option linter.unusedVariables false

theorem errOf_len {t : It} (h : errOf t = 0) : t.enc.length ≤ 17203200 := by
  obtain ⟨h1, h2⟩ := errOf_zero h
  simp only [fits, Bool.and_eq_true, decide_eq_true_eq, Bool.not_eq_true'] at h1
  have := enc_le t h2 h1.2
  omega
theorem errOf_iff (t : It) (hc : t.cnt ≤ 4096) (hd : t.dep ≤ 12) : errOf t = 0 ↔ t.long = false ∧ t.good = true := by
  constructor
  · intro h
    obtain ⟨h1, h2⟩ := errOf_zero h
    simp only [fits, Bool.and_eq_true, decide_eq_true_eq, Bool.not_eq_true'] at h1
    exact ⟨h1.2, h2⟩
  · rintro ⟨h1, h2⟩
    have : fits t 0 1 = true := by
      simp only [fits, Bool.and_eq_true, decide_eq_true_eq, Bool.not_eq_true']
      exact ⟨⟨by omega, by omega⟩, h1⟩
    rw [errOf, if_pos this, if_pos h2]

/-- a list of two -/
def row2 (a b : It) : It := .mk 3 0 ⟨#[]⟩ [a, b]
theorem row2_err (a b : It) (ha : a.cnt ≤ 2000) (hb : b.cnt ≤ 2000) (da : a.dep ≤ 11) (db : b.dep ≤ 11) : errOf (row2 a b) = 0 ↔ errOf a = 0 ∧ errOf b = 0 := by
  rw [errOf_iff a (by omega) (by omega), errOf_iff b (by omega) (by omega), errOf_iff (row2 a b) (by simp [row2, It.cnt, cnts]; omega) (by simp [row2, It.dep, deps]; omega)]
  simp [row2, It.long, longs, It.good, goods, form, zero_size]
  constructor
  · rintro ⟨⟨h1, h2⟩, h3, h4⟩; exact ⟨⟨h1, h3⟩, h2, h4⟩
  · rintro ⟨⟨h1, h3⟩, h2, h4⟩; exact ⟨⟨h1, h2⟩, h3, h4⟩
theorem row2_enc (a b : It) : (row2 a b).enc = [3, 1, 2] ++ a.enc ++ b.enc := by
  simp [row2, It.enc, encs, cntB, dgs, be]

/-- two items in boxes of the law's own, and all that came in as it was -/
def LSt (w : World) (x0 x1 x2 x3 y0 y1 y2 y3 : Value) (wi : World) : Prop :=
  Below w.heap.size w wi ∧ w.heap.size + 2 ≤ wi.heap.size ∧ wi.heap[w.heap.size]? = some (.cells #[x0, x1, x2, x3] 26 (0, 0)) ∧ wi.heap[w.heap.size + 1]? = some (.cells #[y0, y1, y2, y3] 26 (0, 0))
theorem LSt.start (w : World) (x0 x1 x2 x3 y0 y1 y2 y3 : Value) : LSt w x0 x1 x2 x3 y0 y1 y2 y3 ((w.alloc (.cells #[x0, x1, x2, x3] 26)).alloc (.cells #[y0, y1, y2, y3] 26)) := by
  refine ⟨((Below.refl _ _).alloc (Nat.le_refl _) _).alloc (by simp) _, by simp, ?_, ?_⟩
  · rw [Below.heap_alloc _ _ _ (by simp)]; exact heap_alloc_new _ _
  · rw [show w.heap.size + 1 = (w.alloc (.cells #[x0, x1, x2, x3] 26)).heap.size from by simp]; exact heap_alloc_new _ _
theorem LSt.step {w wi wj : World} {x0 x1 x2 x3 y0 y1 y2 y3 : Value} (h : LSt w x0 x1 x2 x3 y0 y1 y2 y3 wi) (hb : Below wi.heap.size wi wj) : LSt w x0 x1 x2 x3 y0 y1 y2 y3 wj :=
  ⟨h.1.trans (hb.mono h.1.size), Nat.le_trans h.2.1 hb.size, (hb.block _ (by have := h.2.1; omega)).trans h.2.2.1, (hb.block _ (by have := h.2.1; omega)).trans h.2.2.2⟩
theorem LSt.facts {w wi : World} {x0 x1 x2 x3 y0 y1 y2 y3 : Value} (h : LSt w x0 x1 x2 x3 y0 y1 y2 y3 wi) :
    (w.heap.size < wi.heap.size ∧ w.heap.size + 1 < wi.heap.size) ∧ (wi.cell? ⟨w.heap.size, 0, none⟩ = some x0 ∧ wi.cell? ⟨w.heap.size, 1, none⟩ = some x1 ∧ wi.cell? ⟨w.heap.size, 2, none⟩ = some x2 ∧ wi.cell? ⟨w.heap.size, 3, none⟩ = some x3) ∧
    (wi.cell? ⟨w.heap.size + 1, 0, none⟩ = some y0 ∧ wi.cell? ⟨w.heap.size + 1, 1, none⟩ = some y1 ∧ wi.cell? ⟨w.heap.size + 1, 2, none⟩ = some y2 ∧ wi.cell? ⟨w.heap.size + 1, 3, none⟩ = some y3) := by
  obtain ⟨a0, a1, a2, a3, _⟩ := row4 h.2.2.1
  obtain ⟨b0, b1, b2, b3, _⟩ := row4 h.2.2.2
  have := h.2.1
  exact ⟨⟨by omega, by omega⟩, ⟨a0, a1, a2, a3⟩, b0, b1, b2, b3⟩
theorem IsIt.at {w wi : World} {t : It} {v : Value} (h : IsIt w (· < w.heap.size) t v) (hb : Below w.heap.size w wi) : IsIt wi (· < wi.heap.size) t v :=
  IsIt.mono (fun q hq => Nat.lt_of_lt_of_le hq hb.size) t (h.below hb)

theorem isIt_row2 {wi wj : World} {t1 t2 : It} {g c : Nat} {x0 x1 x2 x3 y0 y1 y2 y3 : Value} (h1 : IsIt wj (· < wj.heap.size) t1 (.agg #[x0, x1, x2, x3])) (h2 : IsIt wj (· < wj.heap.size) t2 (.agg #[y0, y1, y2, y3]))
    (hg : wj.heap[g]? = some (.cells #[x0, x1, x2, x3, y0, y1, y2, y3] 26 (0, 0))) : IsIt wj (· < wj.heap.size) (row2 t1 t2) (.agg #[.int .i64 3, .int .i64 0, .string ⟨#[]⟩, .slice (some ⟨g, 0, none⟩) 2 c]) := by
  have hlt := (Array.getElem?_eq_some_iff.1 hg).1
  rw [row2, IsIt]
  refine ⟨some ⟨g, 0, none⟩, c, rfl, ⟨by omega, by omega⟩, ⟨by omega, by omega⟩, Nat.zero_le _, by simp [maxLen], ?_⟩
  rw [AreIts, AreIts, AreIts]
  exact ⟨⟨g, 0, x0, x1, x2, x3, rfl, hlt, cell_of_row wj g 0 _ _ _ hg, cell_of_row wj g 1 _ _ _ hg, cell_of_row wj g 2 _ _ _ hg, cell_of_row wj g 3 _ _ _ hg, h1⟩,
    ⟨g, 0, y0, y1, y2, y3, rfl, hlt, cell_of_row wj g 4 _ _ _ hg, cell_of_row wj g 5 _ _ _ hg, cell_of_row wj g 6 _ _ _ hg, cell_of_row wj g 7 _ _ _ hg, h2⟩, trivial⟩

theorem cat3 (a b : List UInt8) : (3 :: 1 :: 2 :: (a ++ b) == ((⟨#[3, 1, 2]⟩ : ByteArray) ++ ⟨a.toArray⟩ ++ ⟨b.toArray⟩).toList) = true := by
  rw [beq_iff_eq, ByteArray.toList_eq, ByteArray.data_append, ByteArray.data_append]
  simp

set_option maxRecDepth 20000 in
theorem law_lists (t1 t2 : It) (v1 v2 : Value) (w : World) (h1 : IsIt w (· < w.heap.size) t1 v1) (h2 : IsIt w (· < w.heap.size) t2 v2) : Calls Try.prog 4 #[v1, v2] w (RetBelow (.bool true) w) := by
  have p1 := h1
  have p2 := h2
  obtain ⟨k1, n1, s1, l1⟩ := t1
  rw [IsIt] at p1
  obtain ⟨a1, c1, rfl, _⟩ := p1
  obtain ⟨k2, n2, s2, l2⟩ := t2
  rw [IsIt] at p2
  obtain ⟨a2, c2, rfl, _⟩ := p2
  generalize ht1 : It.mk k1 n1 s1 l1 = t1 at *
  generalize ht2 : It.mk k2 n2 s2 l2 = t2 at *
  generalize l1.length = m1 at *
  generalize l2.length = m2 at *
  have H1 := Lib.hid h1
  have H2 := Lib.hid h2
  clear ht1 ht2 h1 h2
  go_enter Try.func4, Try.ntmps4
  go_wp2_with fail
  have S0 := LSt.start w (.int .i64 k1) (.int .i64 n1) (.string s1) (.slice a1 m1 c1) (.int .i64 k2) (.int .i64 n2) (.string s2) (.slice a2 m2 c2)
  refine (awake_any _).mono ?_
  rintro e w1 ⟨rfl, hb1⟩
  have S1 := S0.step hb1
  obtain ⟨⟨lt1, lt2⟩, ⟨x0, x1, x2, x3⟩, y0, y1, y2, y3⟩ := S1.facts
  have I1 := Lib.hid S1
  clear S0 S1 hb1
  go_wp2_with fail
  refine (items_all t1.cnt t1 _ 2000 1 w1 (Nat.le_refl _) (H1.out.at I1.out.1) (by omega) (by omega) (by omega) (by omega)).mono ?_
  rintro e w2 ⟨n, d, rfl, hb2, q1, q2, q3, q4, q5⟩
  have S2 := I1.out.step hb2
  clear lt1 lt2 x0 x1 x2 x3 y0 y1 y2 y3
  obtain ⟨⟨lt1, lt2⟩, ⟨x0, x1, x2, x3⟩, y0, y1, y2, y3⟩ := S2.facts
  have I2 := Lib.hid S2
  have Q5 := Lib.hid q5
  clear S2 hb2 q5
  go_wp2_with fail
  refine (items_all t2.cnt t2 _ 2000 1 w2 (Nat.le_refl _) (H2.out.at I2.out.1) (by omega) (by omega) (by omega) (by omega)).mono ?_
  rintro e w3 ⟨m, c, rfl, hb3, r1, r2, r3, r4, r5⟩
  have S3 := I2.out.step hb3
  clear lt1 lt2 x0 x1 x2 x3 y0 y1 y2 y3
  obtain ⟨⟨lt1, lt2⟩, ⟨x0, x1, x2, x3⟩, y0, y1, y2, y3⟩ := S3.facts
  have I3 := Lib.hid S3
  have R5 := Lib.hid r5
  clear S3 hb3 r5
  have hcs : 2000 < n ∨ (n ≤ 2000 ∧ 2000 < m) ∨ (n ≤ 2000 ∧ m ≤ 2000 ∧ 11 < d) ∨ (n ≤ 2000 ∧ m ≤ 2000 ∧ d ≤ 11 ∧ 11 < c) ∨ (n ≤ 2000 ∧ m ≤ 2000 ∧ d ≤ 11 ∧ c ≤ 11) := by omega
  rcases hcs with hc | ⟨g1, hc⟩ | ⟨g1, g2, hc⟩ | ⟨g1, g2, g3, hc⟩ | ⟨g1, g2, g3, g4⟩
  iterate 4
    go_wp2_with fail
    go_ret
    exact ⟨rfl, I3.out.1⟩
  go_wp2_with fail
  refine (texts_all t1.cnt t1 _ w3 (Nat.le_refl _) (H1.out.at I3.out.1)).mono ?_
  rintro e w4 ⟨z1, rfl, hb4⟩
  have S4 := I3.out.step hb4
  clear lt1 lt2 x0 x1 x2 x3 y0 y1 y2 y3
  obtain ⟨⟨lt1, lt2⟩, ⟨x0, x1, x2, x3⟩, y0, y1, y2, y3⟩ := S4.facts
  have I4 := Lib.hid S4
  clear S4 hb4
  by_cases hz1 : 65536 < z1
  · go_wp2_with fail
    go_ret
    exact ⟨rfl, I4.out.1⟩
  go_wp2_with fail
  refine (texts_all t2.cnt t2 _ w4 (Nat.le_refl _) (H2.out.at I4.out.1)).mono ?_
  rintro e w5 ⟨z2, rfl, hb5⟩
  have S5 := I4.out.step hb5
  clear lt1 lt2 x0 x1 x2 x3 y0 y1 y2 y3
  obtain ⟨⟨lt1, lt2⟩, ⟨x0, x1, x2, x3⟩, y0, y1, y2, y3⟩ := S5.facts
  have I5 := Lib.hid S5
  clear S5 hb5
  by_cases hz2 : 65536 < z2
  · go_wp2_with fail
    go_ret
    exact ⟨rfl, I5.out.1⟩
  have hA := Q5.out (by omega) (by omega)
  have hB := R5.out (by omega) (by omega)
  have HA := Lib.hid (show t1.cnt ≤ 2000 ∧ t1.dep ≤ 11 from ⟨by omega, by omega⟩)
  have HB := Lib.hid (show t2.cnt ≤ 2000 ∧ t2.dep ≤ 11 from ⟨by omega, by omega⟩)
  clear hA hB
  go_wp2_with fail
  refine (encode_any t1 _ w5 (H1.out.at I5.out.1) (fun h => by have := errOf_len h; omega)).mono ?_
  rintro e w6 ⟨v6, rfl, hb6, hown6⟩
  have S6 := I5.out.step hb6
  clear lt1 lt2 x0 x1 x2 x3 y0 y1 y2 y3
  obtain ⟨⟨lt1, lt2⟩, ⟨x0, x1, x2, x3⟩, y0, y1, y2, y3⟩ := S6.facts
  have I6 := Lib.hid S6
  have O6 := Lib.hid hown6
  clear S6 hb6 hown6
  generalize hE1 : errOf t1 = E1 at *
  have HE1 := Lib.hid hE1
  clear hE1
  go_wp2_with fail
  refine (encode_any t2 _ w6 (H2.out.at I6.out.1) (fun h => by have := errOf_len h; omega)).mono ?_
  rintro e w7 ⟨v7, rfl, hb7, hown7⟩
  have S7 := I6.out.step hb7
  clear lt1 lt2 x0 x1 x2 x3 y0 y1 y2 y3
  obtain ⟨⟨lt1, lt2⟩, ⟨x0, x1, x2, x3⟩, y0, y1, y2, y3⟩ := S7.facts
  have I7 := Lib.hid S7
  have O6' := Lib.hid (O6.out.below hb7)
  have O7 := Lib.hid hown7
  clear S7 hb7 hown7 O6
  generalize hE2 : errOf t2 = E2 at *
  have HE2 := Lib.hid hE2
  clear hE2
  go_wp2_with fail
  refine (row_any _ _ _ _).mono ?_
  rintro e w8 ⟨rfl, hb8⟩
  have hb8' : Below w7.heap.size w7 w8 := ((Below.refl _ _).alloc (Nat.le_refl _) _).trans (hb8.mono (by simp))
  have hrow8 : w8.heap[w7.heap.size]? = some (.cells #[.int .i64 k1, .int .i64 n1, .string s1, .slice a1 m1 c1, .int .i64 k2, .int .i64 n2, .string s2, .slice a2 m2 c2] 26 (0, 0)) := (hb8.block _ (by simp)).trans (heap_alloc_new _ _)
  have S8 := I7.out.step hb8'
  clear lt1 lt2 x0 x1 x2 x3 y0 y1 y2 y3
  have I8 := Lib.hid S8
  have hIR := isIt_row2 (wi := w8) (c := 2) (H1.out.at I8.out.1) (H2.out.at I8.out.1) hrow8
  have O6'' := Lib.hid (O6'.out.below hb8')
  have O7' := Lib.hid (O7.out.below hb8')
  have IR := Lib.hid hIR
  clear hb8 hb8' hrow8 S8 hIR O6' O7
  go_wp2_with fail
  refine (encode_any (row2 t1 t2) _ w8 IR.out (fun h => by have := errOf_len h; omega)).mono ?_
  rintro e w9 ⟨v9, rfl, hb9, hown9⟩
  have hE := row2_err t1 t2 HA.out.1 HB.out.1 HA.out.2 HB.out.2
  rw [HE1.out, HE2.out] at hE
  have S9 := I8.out.step hb9
  have I9 := Lib.hid S9
  have O6a := O6''.out.below hb9
  have O7a := O7'.out.below hb9
  have O9 := hown9
  clear S9 hb9 hown9 O6'' O7'
  generalize hE3 : errOf (row2 t1 t2) = E3 at *
  by_cases e1 : E1 = 0
  · by_cases e2 : E2 = 0
    · have e3 : E3 = 0 := hE.2 ⟨e1, e2⟩
      rw [if_pos e1] at O6a
      rw [if_pos e2] at O7a
      rw [if_pos e3, row2_enc] at O9
      clear hE hE3
      have cv1 := conv_own O6a
      have cv2 := conv_own O7a
      have cv3 := conv_own O9
      have hl1 := errOf_len (HE1.out.trans e1)
      have hl2 := errOf_len (HE2.out.trans e2)
      have hcat := Lib.hid (cat3 t1.enc t2.enc)
      subst e1 e2 e3
      clear O6a O7a O9
      go_wp2_with fail
      go_ret
      refine ⟨?_, I9.out.1⟩
      exact congrArg (fun b => Ending.returned (.bool b)) hcat.out
    · have n2 : (E2 != 0) = true := by simpa using e2
      have n3 : (E3 != 0) = true := by
        have : E3 ≠ 0 := fun h => e2 (hE.1 h).2
        simpa using this
      subst e1
      clear hE hE3 O6a O7a O9
      go_wp2_with fail
      go_ret
      exact ⟨rfl, I9.out.1⟩
  · have n1 : (E1 != 0) = true := by simpa using e1
    have n3 : (E3 != 0) = true := by
      have : E3 ≠ 0 := fun h => e1 (hE.1 h).1
      simpa using this
    clear hE hE3 O6a O7a O9
    go_wp2_with fail
    go_ret
    exact ⟨rfl, I9.out.1⟩
end Go.Proofs.Ytnnakfhkejdfcaa
