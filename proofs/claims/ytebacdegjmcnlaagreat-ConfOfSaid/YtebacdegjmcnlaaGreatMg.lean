import Derived.Test.YtebacdegjmcnlaaGreatMf
namespace Go.Proofs.YtebacdegjmcnlaaGreat
open Go.RowKit Pl
set_option linter.unusedVariables false
set_option maxRecDepth 20000
theorem row7 {w : World} {b : Nat} {a0 a1 a2 a3 a4 a5 a6 : Value} {t : TypeId} (h : w.heap[b]? = some (.cells #[a0, a1, a2, a3, a4, a5, a6] t (0, 0))) :
    w.cell? ⟨b, 0, none⟩ = some a0 ∧ w.cell? ⟨b, 1, none⟩ = some a1 ∧ w.cell? ⟨b, 2, none⟩ = some a2 ∧ w.cell? ⟨b, 3, none⟩ = some a3 ∧ w.cell? ⟨b, 4, none⟩ = some a4 ∧ w.cell? ⟨b, 5, none⟩ = some a5 ∧ w.cell? ⟨b, 6, none⟩ = some a6 :=
  ⟨cell_of_row w b 0 _ _ _ h, cell_of_row w b 1 _ _ _ h, cell_of_row w b 2 _ _ _ h, cell_of_row w b 3 _ _ _ h, cell_of_row w b 4 _ _ _ h, cell_of_row w b 5 _ _ _ h, cell_of_row w b 6 _ _ _ h⟩
theorem fit_submit (o : Int) (h : o = 5) (s t : ByteArray) (a b c n : Int) (w : World) (ht : t.size ≤ 281474976710656) : Calls Tryz.prog 46 #[.agg #[.int .i64 o, .string s, .string t, .int .i64 a, .int .i64 b, .int .i64 c, .int .i64 n]] w (FitPost o t a b c n w) := by
  have hf : fitF o t a b c n = (eqC o s t a b c n o s t a b c 0 && Nm.may t.data.toList && Vc.fitB 0 0 0 a b c) := by
    unfold fitF eqC
    subst h
    rw [beq_self_ba, beq_self_ba]
    try rw [eqV_self]
    simp [Bool.and_assoc]
  have HF := Lib.hid hf
  have HT := Lib.hid ht
  clear hf ht
  have q := eq25v
  obtain ⟨W, hW⟩ : ∃ W, W = ((w.alloc (.cells #[.int .i64 o, .string s, .string t, .int .i64 a, .int .i64 b, .int .i64 c, .int .i64 n] 32)).alloc (.cells #[.int .i64 o, .string s, .string t, .int .i64 a, .int .i64 b, .int .i64 c, .int .i64 0] 32)).drew := ⟨_, rfl⟩
  have hB : Below w.heap.size w W := by rw [hW]; exact (((Below.refl w.heap.size w).alloc (Nat.le_refl _) _).alloc (by simp) _).drew
  have hR : W.heap[w.heap.size]? = some (.cells #[.int .i64 o, .string s, .string t, .int .i64 a, .int .i64 b, .int .i64 c, .int .i64 n] 32 (0, 0)) := by
    rw [hW]; exact (Below.heap_alloc _ _ _ (by simp)).trans (heap_alloc_new _ _)
  have hR2 : W.heap[w.heap.size + 1]? = some (.cells #[.int .i64 o, .string s, .string t, .int .i64 a, .int .i64 b, .int .i64 c, .int .i64 0] 32 (0, 0)) := by
    rw [hW, show w.heap.size + 1 = (w.alloc (.cells #[.int .i64 o, .string s, .string t, .int .i64 a, .int .i64 b, .int .i64 c, .int .i64 n] 32)).heap.size from by simp]; exact heap_alloc_new _ _
  have hS : W.heap.size = w.heap.size + 2 := by rw [hW]; simp
  have HB := Lib.hid hB
  have HR := Lib.hid hR
  have HS := Lib.hid hS
  have HC := Lib.hid (fun V (h : Below W.heap.size W V) => row7 ((h.block _ (by omega)).trans hR))
  have HD := Lib.hid (row7 hR2)
  have HW := Lib.hid hW
  clear hB hR hR2 hS hW
  subst h
  cases hE : eqC 5 s t a b c n 5 s t a b c 0
  · go_enter Tryz.func46, Tryz.ntmps46
    go_wp2_with fail
    go_region
    all_goals
      rw [← HW.out]
      obtain ⟨x0, x1, x2, x3, x4, x5, x6⟩ := HC.out W (Below.refl _ _)
      obtain ⟨z0, z1, z2, z3, z4, z5, z6⟩ := HD.out
      go_wp2_with fail
      go_ret
      exact ⟨by rw [HF.out, hE]; rfl, HB.out⟩
  cases hM : Nm.may t.data.toList
  · go_enter Tryz.func46, Tryz.ntmps46
    go_wp2_with fail
    go_region
    all_goals
      rw [← HW.out]
      obtain ⟨x0, x1, x2, x3, x4, x5, x6⟩ := HC.out W (Below.refl _ _)
      obtain ⟨z0, z1, z2, z3, z4, z5, z6⟩ := HD.out
      go_wp2_with (go_at_call 45; (refine (Nm.may_any _ _ HT.out).mono ?_); rintro e w1 ⟨rfl, hb1⟩; rw [hM]; have B1 := Lib.hid hb1; clear hb1; obtain ⟨y0, y1, y2, y3, y4, y5, y6⟩ := HC.out w1 B1.out)
      go_ret
      exact ⟨by rw [HF.out, hE, hM]; rfl, HB.out.trans (B1.out.mono HB.out.size)⟩
  · go_enter Tryz.func46, Tryz.ntmps46
    go_wp2_with fail
    go_region
    all_goals
      rw [← HW.out]
      obtain ⟨x0, x1, x2, x3, x4, x5, x6⟩ := HC.out W (Below.refl _ _)
      obtain ⟨z0, z1, z2, z3, z4, z5, z6⟩ := HD.out
      go_wp2_with (first
        | (go_at_call 45; (refine (Nm.may_any _ _ HT.out).mono ?_); rintro e w1 ⟨rfl, hb1⟩; rw [hM]; have B1 := Lib.hid hb1; clear hb1; obtain ⟨y0, y1, y2, y3, y4, y5, y6⟩ := HC.out w1 B1.out)
        | (go_at_call 72; (refine (Vc.may_any _ _ _ _).mono ?_); rintro e w2 ⟨rfl, hb2⟩; have B2 := Lib.hid hb2; clear hb2))
      go_ret
      exact ⟨by rw [HF.out, hE, hM]; rfl, HB.out.trans ((B1.out.trans (B2.out.mono B1.out.size)).mono HB.out.size)⟩
theorem fit_report (o : Int) (h : o = 7) (s t : ByteArray) (a b c n : Int) (w : World) (ht : t.size ≤ 281474976710656) : Calls Tryz.prog 46 #[.agg #[.int .i64 o, .string s, .string t, .int .i64 a, .int .i64 b, .int .i64 c, .int .i64 n]] w (FitPost o t a b c n w) := by
  have hf : fitF o t a b c n = (eqC o s t a b c n o s t 0 0 0 n && Nm.may t.data.toList && (n == 1 || n == 2)) := by
    unfold fitF eqC
    subst h
    rw [beq_self_ba, beq_self_ba]
    try rw [eqV_self]
    simp [Bool.and_assoc]
  have HF := Lib.hid hf
  have HT := Lib.hid ht
  clear hf ht
  have q := eq25v
  obtain ⟨W, hW⟩ : ∃ W, W = ((w.alloc (.cells #[.int .i64 o, .string s, .string t, .int .i64 a, .int .i64 b, .int .i64 c, .int .i64 n] 32)).alloc (.cells #[.int .i64 o, .string s, .string t, .int .i64 0, .int .i64 0, .int .i64 0, .int .i64 n] 32)).drew := ⟨_, rfl⟩
  have hB : Below w.heap.size w W := by rw [hW]; exact (((Below.refl w.heap.size w).alloc (Nat.le_refl _) _).alloc (by simp) _).drew
  have hR : W.heap[w.heap.size]? = some (.cells #[.int .i64 o, .string s, .string t, .int .i64 a, .int .i64 b, .int .i64 c, .int .i64 n] 32 (0, 0)) := by
    rw [hW]; exact (Below.heap_alloc _ _ _ (by simp)).trans (heap_alloc_new _ _)
  have hR2 : W.heap[w.heap.size + 1]? = some (.cells #[.int .i64 o, .string s, .string t, .int .i64 0, .int .i64 0, .int .i64 0, .int .i64 n] 32 (0, 0)) := by
    rw [hW, show w.heap.size + 1 = (w.alloc (.cells #[.int .i64 o, .string s, .string t, .int .i64 a, .int .i64 b, .int .i64 c, .int .i64 n] 32)).heap.size from by simp]; exact heap_alloc_new _ _
  have hS : W.heap.size = w.heap.size + 2 := by rw [hW]; simp
  have HB := Lib.hid hB
  have HR := Lib.hid hR
  have HS := Lib.hid hS
  have HC := Lib.hid (fun V (h : Below W.heap.size W V) => row7 ((h.block _ (by omega)).trans hR))
  have HD := Lib.hid (row7 hR2)
  have HW := Lib.hid hW
  clear hB hR hR2 hS hW
  subst h
  cases hE : eqC 7 s t a b c n 7 s t 0 0 0 n
  · go_enter Tryz.func46, Tryz.ntmps46
    go_wp2_with fail
    go_region
    all_goals
      rw [← HW.out]
      obtain ⟨x0, x1, x2, x3, x4, x5, x6⟩ := HC.out W (Below.refl _ _)
      obtain ⟨z0, z1, z2, z3, z4, z5, z6⟩ := HD.out
      go_wp2_with fail
      go_ret
      exact ⟨by rw [HF.out, hE]; rfl, HB.out⟩
  cases hM : Nm.may t.data.toList
  · go_enter Tryz.func46, Tryz.ntmps46
    go_wp2_with fail
    go_region
    all_goals
      rw [← HW.out]
      obtain ⟨x0, x1, x2, x3, x4, x5, x6⟩ := HC.out W (Below.refl _ _)
      obtain ⟨z0, z1, z2, z3, z4, z5, z6⟩ := HD.out
      go_wp2_with (go_at_call 45; (refine (Nm.may_any _ _ HT.out).mono ?_); rintro e w1 ⟨rfl, hb1⟩; rw [hM]; have B1 := Lib.hid hb1; clear hb1; obtain ⟨y0, y1, y2, y3, y4, y5, y6⟩ := HC.out w1 B1.out)
      go_ret
      exact ⟨by rw [HF.out, hE, hM]; rfl, HB.out.trans (B1.out.mono HB.out.size)⟩
  by_cases h1 : n = 1
  · subst h1
    go_enter Tryz.func46, Tryz.ntmps46
    go_wp2_with fail
    go_region
    all_goals
      rw [← HW.out]
      obtain ⟨x0, x1, x2, x3, x4, x5, x6⟩ := HC.out W (Below.refl _ _)
      obtain ⟨z0, z1, z2, z3, z4, z5, z6⟩ := HD.out
      go_wp2_with (go_at_call 45; (refine (Nm.may_any _ _ HT.out).mono ?_); rintro e w1 ⟨rfl, hb1⟩; rw [hM]; have B1 := Lib.hid hb1; clear hb1; obtain ⟨y0, y1, y2, y3, y4, y5, y6⟩ := HC.out w1 B1.out)
      go_ret
      exact ⟨by rw [HF.out, hE, hM]; rfl, HB.out.trans (B1.out.mono HB.out.size)⟩
  by_cases h2 : n = 2
  · subst h2
    go_enter Tryz.func46, Tryz.ntmps46
    go_wp2_with fail
    go_region
    all_goals
      rw [← HW.out]
      obtain ⟨x0, x1, x2, x3, x4, x5, x6⟩ := HC.out W (Below.refl _ _)
      obtain ⟨z0, z1, z2, z3, z4, z5, z6⟩ := HD.out
      go_wp2_with (go_at_call 45; (refine (Nm.may_any _ _ HT.out).mono ?_); rintro e w1 ⟨rfl, hb1⟩; rw [hM]; have B1 := Lib.hid hb1; clear hb1; obtain ⟨y0, y1, y2, y3, y4, y5, y6⟩ := HC.out w1 B1.out)
      go_ret
      exact ⟨by rw [HF.out, hE, hM]; rfl, HB.out.trans (B1.out.mono HB.out.size)⟩
  have g1 : (n == 1) = false := by simpa using h1
  have g2 : (n == 2) = false := by simpa using h2
  go_enter Tryz.func46, Tryz.ntmps46
  go_wp2_with fail
  go_region
  all_goals
    rw [← HW.out]
    obtain ⟨x0, x1, x2, x3, x4, x5, x6⟩ := HC.out W (Below.refl _ _)
    obtain ⟨z0, z1, z2, z3, z4, z5, z6⟩ := HD.out
    go_wp2_with (go_at_call 45; (refine (Nm.may_any _ _ HT.out).mono ?_); rintro e w1 ⟨rfl, hb1⟩; rw [hM]; have B1 := Lib.hid hb1; clear hb1; obtain ⟨y0, y1, y2, y3, y4, y5, y6⟩ := HC.out w1 B1.out)
    go_ret
    exact ⟨by rw [HF.out, hE, hM, g1, g2]; rfl, HB.out.trans (B1.out.mono HB.out.size)⟩
theorem fieldsFit_any (o : Int) (s t : ByteArray) (a b c n : Int) (w : World) (ht : t.size ≤ 281474976710656) : Calls Tryz.prog 46 #[.agg #[.int .i64 o, .string s, .string t, .int .i64 a, .int .i64 b, .int .i64 c, .int .i64 n]] w (FitPost o t a b c n w) := by
  by_cases h1 : o = 1
  · exact fit_node o h1 s t a b c n w ht
  by_cases h2 : o = 2
  · exact fit_drain o h2 s t a b c n w ht
  by_cases h3 : o = 3
  · exact fit_drop o h3 s t a b c n w ht
  by_cases h4 : o = 4
  · exact fit_tenant o h4 s t a b c n w ht
  by_cases h5 : o = 5
  · exact fit_submit o h5 s t a b c n w ht
  by_cases h6 : o = 6
  · exact fit_kill o h6 s t a b c n w ht
  by_cases h7 : o = 7
  · exact fit_report o h7 s t a b c n w ht
  by_cases h8 : o = 8
  · exact fit_job o h8 s t a b c n w ht
  by_cases h9 : o = 9
  · exact fit_used o h9 s t a b c n w ht
  by_cases h10 : o = 10
  · exact fit_spent o h10 s t a b c n w ht
  exact fit_other o (by omega) s t a b c n w
end Go.Proofs.YtebacdegjmcnlaaGreat
