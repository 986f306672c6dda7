import Derived.Test.YtphclpjekpdifaaGreatYF
import Derived.Test.YtphclpjekpdifaaGreatYG
namespace Go.Proofs.YtphclpjekpdifaaGreat.Wi
open Go.RowKit Pl
set_option maxRecDepth 20000
set_option linter.unusedVariables false
set_option maxRecDepth 20000
def fitF (o : Int) (t : ByteArray) (a b c n : Int) : Bool :=
  if o = 1 ∨ o = 4 then t.size == 0 && n == 0 && Vc.fitB 0 0 0 a b c
  else if o = 2 then t.size == 0 && eqV a b c 0 0 0 && (n == 0 || n == 1)
  else if o = 3 ∨ o = 6 ∨ o = 8 ∨ o = 9 ∨ o = 10 then t.size == 0 && eqV a b c 0 0 0 && n == 0
  else if o = 5 then n == 0 && Nm.may t.data.toList && Vc.fitB 0 0 0 a b c
  else if o = 7 then eqV a b c 0 0 0 && Nm.may t.data.toList && (n == 1 || n == 2)
  else false
theorem size0 (t : ByteArray) : (t.size == 0) = (t == ⟨#[]⟩) := by
  rw [Bool.eq_iff_iff]
  have h2 : (t == ⟨#[]⟩) = true ↔ t = ⟨#[]⟩ := by
    obtain ⟨⟨x⟩⟩ := t
    show ((⟨x⟩ : Array UInt8) == ⟨[]⟩) = true ↔ _
    simp
  rw [h2, beq_iff_eq]
  exact ⟨fun h => size_zero h, fun h => by rw [h]; rfl⟩
theorem beq_self_ba (t : ByteArray) : (t == t) = true := by
  obtain ⟨⟨x⟩⟩ := t
  show ((⟨x⟩ : Array UInt8) == ⟨x⟩) = true
  simp
theorem eqV_self (a b c : Int) : eqV a b c a b c = true := eqV_iff.2 ⟨rfl, rfl, rfl⟩
theorem eq25v (o : Int) (s t : ByteArray) (a b c n : Int) (o' : Int) (s' t' : ByteArray) (a' b' c' n' : Int) (w : World) : (binOp .eql 33 (.agg #[.int .i64 o, .string s, .string t, .int .i64 a, .int .i64 b, .int .i64 c, .int .i64 n]) (.agg #[.int .i64 o', .string s', .string t', .int .i64 a', .int .i64 b', .int .i64 c', .int .i64 n'])).run Tryz.prog w = .ok (.bool (eqC o s t a b c n o' s' t' a' b' c' n')) w := by
  rw [run_eql_struct]
  have := eq25 o s t a b c n o' s' t' a' b' c' n' w
  unfold cV at this
  rw [this]
  rfl
def FitPost (o : Int) (t : ByteArray) (a b c n : Int) (w : World) (e : Ending) (w' : World) : Prop := e = .returned (.bool (fitF o t a b c n)) ∧ Below w.heap.size w w'
theorem fit_node (o : Int) (h : o = 1) (s t : ByteArray) (a b c n : Int) (w : World) (ht : t.size ≤ 281474976710656) : Calls Tryz.prog 78 #[.agg #[.int .i64 o, .string s, .string t, .int .i64 a, .int .i64 b, .int .i64 c, .int .i64 n]] w (FitPost o t a b c n w) := by
  have hf : fitF o t a b c n = (eqC o s t a b c n o s ⟨#[]⟩ a b c 0 && Vc.fitB 0 0 0 a b c) := by
    unfold fitF eqC
    subst h
    rw [size0, beq_self_ba]
    try rw [beq_self_ba]
    try rw [eqV_self]
    simp [Bool.and_assoc]
  have HF := Lib.hid hf
  have HT := Lib.hid ht
  clear hf ht
  have q := eq25v
  subst h
  cases hE : eqC 1 s t a b c n 1 s ⟨#[]⟩ a b c 0
  · go_enter Tryz.func78, Tryz.ntmps78
    go_wp2_with fail
    go_ret
    exact ⟨by rw [HF.out, hE]; rfl, ((Below.refl _ w).alloc (Nat.le_refl _) _).alloc (by simp) _⟩
  · go_enter Tryz.func78, Tryz.ntmps78
    go_wp2_with (go_at_call 118; (refine (Vc.may_any _ _ _ _).mono ?_); rintro e w1 ⟨rfl, hb1⟩)
    go_ret
    exact ⟨by rw [HF.out, hE]; rfl, (((Below.refl _ w).alloc (Nat.le_refl _) _).alloc (by simp) _).trans (hb1.mono (by simp; omega))⟩
theorem fit_tenant (o : Int) (h : o = 4) (s t : ByteArray) (a b c n : Int) (w : World) (ht : t.size ≤ 281474976710656) : Calls Tryz.prog 78 #[.agg #[.int .i64 o, .string s, .string t, .int .i64 a, .int .i64 b, .int .i64 c, .int .i64 n]] w (FitPost o t a b c n w) := by
  have hf : fitF o t a b c n = (eqC o s t a b c n o s ⟨#[]⟩ a b c 0 && Vc.fitB 0 0 0 a b c) := by
    unfold fitF eqC
    subst h
    rw [size0, beq_self_ba]
    try rw [beq_self_ba]
    try rw [eqV_self]
    simp [Bool.and_assoc]
  have HF := Lib.hid hf
  have HT := Lib.hid ht
  clear hf ht
  have q := eq25v
  subst h
  cases hE : eqC 4 s t a b c n 4 s ⟨#[]⟩ a b c 0
  · go_enter Tryz.func78, Tryz.ntmps78
    go_wp2_with fail
    go_ret
    exact ⟨by rw [HF.out, hE]; rfl, ((Below.refl _ w).alloc (Nat.le_refl _) _).alloc (by simp) _⟩
  · go_enter Tryz.func78, Tryz.ntmps78
    go_wp2_with (go_at_call 118; (refine (Vc.may_any _ _ _ _).mono ?_); rintro e w1 ⟨rfl, hb1⟩)
    go_ret
    exact ⟨by rw [HF.out, hE]; rfl, (((Below.refl _ w).alloc (Nat.le_refl _) _).alloc (by simp) _).trans (hb1.mono (by simp; omega))⟩
theorem fit_drain (o : Int) (h : o = 2) (s t : ByteArray) (a b c n : Int) (w : World) (ht : t.size ≤ 281474976710656) : Calls Tryz.prog 78 #[.agg #[.int .i64 o, .string s, .string t, .int .i64 a, .int .i64 b, .int .i64 c, .int .i64 n]] w (FitPost o t a b c n w) := by
  have hf : fitF o t a b c n = (eqC o s t a b c n o s ⟨#[]⟩ 0 0 0 n && (n == 0 || n == 1)) := by
    unfold fitF eqC
    subst h
    rw [size0, beq_self_ba]
    try rw [beq_self_ba]
    try rw [eqV_self]
    simp [Bool.and_comm, Bool.and_left_comm]
  have HF := Lib.hid hf
  have HT := Lib.hid ht
  clear hf ht
  have q := eq25v
  subst h
  cases hE : eqC 2 s t a b c n 2 s ⟨#[]⟩ 0 0 0 n
  · go_enter Tryz.func78, Tryz.ntmps78
    go_wp2_with fail
    go_ret
    exact ⟨by rw [HF.out, hE]; rfl, ((Below.refl _ w).alloc (Nat.le_refl _) _).alloc (by simp) _⟩
  · by_cases h0 : n = 0
    · subst h0
      go_enter Tryz.func78, Tryz.ntmps78
      go_wp2_with fail
      go_ret
      exact ⟨by rw [HF.out, hE]; rfl, ((Below.refl _ w).alloc (Nat.le_refl _) _).alloc (by simp) _⟩
    · by_cases h1 : n = 1
      · subst h1
        go_enter Tryz.func78, Tryz.ntmps78
        go_wp2_with fail
        go_ret
        exact ⟨by rw [HF.out, hE]; rfl, ((Below.refl _ w).alloc (Nat.le_refl _) _).alloc (by simp) _⟩
      · have g0 : (n == 0) = false := by simpa using h0
        have g1 : (n == 1) = false := by simpa using h1
        go_enter Tryz.func78, Tryz.ntmps78
        go_wp2_with fail
        go_ret
        exact ⟨by rw [HF.out, hE, g0, g1]; rfl, ((Below.refl _ w).alloc (Nat.le_refl _) _).alloc (by simp) _⟩
theorem fit_drop (o : Int) (h : o = 3) (s t : ByteArray) (a b c n : Int) (w : World) (ht : t.size ≤ 281474976710656) : Calls Tryz.prog 78 #[.agg #[.int .i64 o, .string s, .string t, .int .i64 a, .int .i64 b, .int .i64 c, .int .i64 n]] w (FitPost o t a b c n w) := by
  have hf : fitF o t a b c n = (eqC o s t a b c n o s ⟨#[]⟩ 0 0 0 0) := by
    unfold fitF eqC
    subst h
    rw [size0, beq_self_ba]
    try rw [beq_self_ba]
    try rw [eqV_self]
    simp [Bool.and_comm, Bool.and_left_comm]
  have HF := Lib.hid hf
  have HT := Lib.hid ht
  clear hf ht
  have q := eq25v
  subst h
  cases hE : eqC 3 s t a b c n 3 s ⟨#[]⟩ 0 0 0 0
  · go_enter Tryz.func78, Tryz.ntmps78
    go_wp2_with fail
    go_ret
    exact ⟨by rw [HF.out, hE]; rfl, ((Below.refl _ w).alloc (Nat.le_refl _) _).alloc (by simp) _⟩
  · go_enter Tryz.func78, Tryz.ntmps78
    go_wp2_with fail
    go_ret
    exact ⟨by rw [HF.out, hE]; rfl, ((Below.refl _ w).alloc (Nat.le_refl _) _).alloc (by simp) _⟩
theorem fit_kill (o : Int) (h : o = 6) (s t : ByteArray) (a b c n : Int) (w : World) (ht : t.size ≤ 281474976710656) : Calls Tryz.prog 78 #[.agg #[.int .i64 o, .string s, .string t, .int .i64 a, .int .i64 b, .int .i64 c, .int .i64 n]] w (FitPost o t a b c n w) := by
  have hf : fitF o t a b c n = (eqC o s t a b c n o s ⟨#[]⟩ 0 0 0 0) := by
    unfold fitF eqC
    subst h
    rw [size0, beq_self_ba]
    try rw [beq_self_ba]
    try rw [eqV_self]
    simp [Bool.and_comm, Bool.and_left_comm]
  have HF := Lib.hid hf
  have HT := Lib.hid ht
  clear hf ht
  have q := eq25v
  subst h
  cases hE : eqC 6 s t a b c n 6 s ⟨#[]⟩ 0 0 0 0
  · go_enter Tryz.func78, Tryz.ntmps78
    go_wp2_with fail
    go_ret
    exact ⟨by rw [HF.out, hE]; rfl, ((Below.refl _ w).alloc (Nat.le_refl _) _).alloc (by simp) _⟩
  · go_enter Tryz.func78, Tryz.ntmps78
    go_wp2_with fail
    go_ret
    exact ⟨by rw [HF.out, hE]; rfl, ((Below.refl _ w).alloc (Nat.le_refl _) _).alloc (by simp) _⟩
theorem fit_job (o : Int) (h : o = 8) (s t : ByteArray) (a b c n : Int) (w : World) (ht : t.size ≤ 281474976710656) : Calls Tryz.prog 78 #[.agg #[.int .i64 o, .string s, .string t, .int .i64 a, .int .i64 b, .int .i64 c, .int .i64 n]] w (FitPost o t a b c n w) := by
  have hf : fitF o t a b c n = (eqC o s t a b c n o s ⟨#[]⟩ 0 0 0 0) := by
    unfold fitF eqC
    subst h
    rw [size0, beq_self_ba]
    try rw [beq_self_ba]
    try rw [eqV_self]
    simp [Bool.and_comm, Bool.and_left_comm]
  have HF := Lib.hid hf
  have HT := Lib.hid ht
  clear hf ht
  have q := eq25v
  subst h
  cases hE : eqC 8 s t a b c n 8 s ⟨#[]⟩ 0 0 0 0
  · go_enter Tryz.func78, Tryz.ntmps78
    go_wp2_with fail
    go_ret
    exact ⟨by rw [HF.out, hE]; rfl, ((Below.refl _ w).alloc (Nat.le_refl _) _).alloc (by simp) _⟩
  · go_enter Tryz.func78, Tryz.ntmps78
    go_wp2_with fail
    go_ret
    exact ⟨by rw [HF.out, hE]; rfl, ((Below.refl _ w).alloc (Nat.le_refl _) _).alloc (by simp) _⟩
theorem fit_used (o : Int) (h : o = 9) (s t : ByteArray) (a b c n : Int) (w : World) (ht : t.size ≤ 281474976710656) : Calls Tryz.prog 78 #[.agg #[.int .i64 o, .string s, .string t, .int .i64 a, .int .i64 b, .int .i64 c, .int .i64 n]] w (FitPost o t a b c n w) := by
  have hf : fitF o t a b c n = (eqC o s t a b c n o s ⟨#[]⟩ 0 0 0 0) := by
    unfold fitF eqC
    subst h
    rw [size0, beq_self_ba]
    try rw [beq_self_ba]
    try rw [eqV_self]
    simp [Bool.and_comm, Bool.and_left_comm]
  have HF := Lib.hid hf
  have HT := Lib.hid ht
  clear hf ht
  have q := eq25v
  subst h
  cases hE : eqC 9 s t a b c n 9 s ⟨#[]⟩ 0 0 0 0
  · go_enter Tryz.func78, Tryz.ntmps78
    go_wp2_with fail
    go_ret
    exact ⟨by rw [HF.out, hE]; rfl, ((Below.refl _ w).alloc (Nat.le_refl _) _).alloc (by simp) _⟩
  · go_enter Tryz.func78, Tryz.ntmps78
    go_wp2_with fail
    go_ret
    exact ⟨by rw [HF.out, hE]; rfl, ((Below.refl _ w).alloc (Nat.le_refl _) _).alloc (by simp) _⟩
theorem fit_spent (o : Int) (h : o = 10) (s t : ByteArray) (a b c n : Int) (w : World) (ht : t.size ≤ 281474976710656) : Calls Tryz.prog 78 #[.agg #[.int .i64 o, .string s, .string t, .int .i64 a, .int .i64 b, .int .i64 c, .int .i64 n]] w (FitPost o t a b c n w) := by
  have hf : fitF o t a b c n = (eqC o s t a b c n o s ⟨#[]⟩ 0 0 0 0) := by
    unfold fitF eqC
    subst h
    rw [size0, beq_self_ba]
    try rw [beq_self_ba]
    try rw [eqV_self]
    simp [Bool.and_comm, Bool.and_left_comm]
  have HF := Lib.hid hf
  have HT := Lib.hid ht
  clear hf ht
  have q := eq25v
  subst h
  cases hE : eqC 10 s t a b c n 10 s ⟨#[]⟩ 0 0 0 0
  · go_enter Tryz.func78, Tryz.ntmps78
    go_wp2_with fail
    go_ret
    exact ⟨by rw [HF.out, hE]; rfl, ((Below.refl _ w).alloc (Nat.le_refl _) _).alloc (by simp) _⟩
  · go_enter Tryz.func78, Tryz.ntmps78
    go_wp2_with fail
    go_ret
    exact ⟨by rw [HF.out, hE]; rfl, ((Below.refl _ w).alloc (Nat.le_refl _) _).alloc (by simp) _⟩
theorem fit_other (o : Int) (h : ¬ (o = 1 ∨ o = 2 ∨ o = 3 ∨ o = 4 ∨ o = 5 ∨ o = 6 ∨ o = 7 ∨ o = 8 ∨ o = 9 ∨ o = 10)) (s t : ByteArray) (a b c n : Int) (w : World) : Calls Tryz.prog 78 #[.agg #[.int .i64 o, .string s, .string t, .int .i64 a, .int .i64 b, .int .i64 c, .int .i64 n]] w (FitPost o t a b c n w) := by
  have hf : fitF o t a b c n = false := by
    unfold fitF
    rw [if_neg (by omega), if_neg (by omega), if_neg (by omega), if_neg (by omega), if_neg (by omega)]
  have HF := Lib.hid hf
  clear hf
  have g1 : (o == 1) = false := by simp; omega
  have g2 : (o == 2) = false := by simp; omega
  have g3 : (o == 3) = false := by simp; omega
  have g4 : (o == 4) = false := by simp; omega
  have g5 : (o == 5) = false := by simp; omega
  have g6 : (o == 6) = false := by simp; omega
  have g7 : (o == 7) = false := by simp; omega
  have g8 : (o == 8) = false := by simp; omega
  have g9 : (o == 9) = false := by simp; omega
  have g10 : (o == 10) = false := by simp; omega
  clear h
  go_enter Tryz.func78, Tryz.ntmps78
  go_wp2_with fail
  go_ret
  exact ⟨by rw [HF.out]; rfl, ((Below.refl _ w).alloc (Nat.le_refl _) _).alloc (by simp) _⟩
theorem row7 {w : World} {b : Nat} {a0 a1 a2 a3 a4 a5 a6 : Value} {t : TypeId} (h : w.heap[b]? = some (.cells #[a0, a1, a2, a3, a4, a5, a6] t (0, 0))) :
    w.cell? ⟨b, 0, none⟩ = some a0 ∧ w.cell? ⟨b, 1, none⟩ = some a1 ∧ w.cell? ⟨b, 2, none⟩ = some a2 ∧ w.cell? ⟨b, 3, none⟩ = some a3 ∧ w.cell? ⟨b, 4, none⟩ = some a4 ∧ w.cell? ⟨b, 5, none⟩ = some a5 ∧ w.cell? ⟨b, 6, none⟩ = some a6 :=
  ⟨cell_of_row w b 0 _ _ _ h, cell_of_row w b 1 _ _ _ h, cell_of_row w b 2 _ _ _ h, cell_of_row w b 3 _ _ _ h, cell_of_row w b 4 _ _ _ h, cell_of_row w b 5 _ _ _ h, cell_of_row w b 6 _ _ _ h⟩
theorem fit_submit (o : Int) (h : o = 5) (s t : ByteArray) (a b c n : Int) (w : World) (ht : t.size ≤ 281474976710656) : Calls Tryz.prog 78 #[.agg #[.int .i64 o, .string s, .string t, .int .i64 a, .int .i64 b, .int .i64 c, .int .i64 n]] w (FitPost o t a b c n w) := by
  have hf : fitF o t a b c n = (eqC o s t a b c n o s t a b c 0 && Nm.may t.data.toList && Vc.fitB 0 0 0 a b c) := by
    unfold fitF eqC
    subst h
    rw [beq_self_ba, beq_self_ba]
    try rw [eqV_self]
    simp [Bool.and_assoc]
  have HF := Lib.hid hf
  have HT := Lib.hid ht
  clear hf ht
  have q := eq25v
  obtain ⟨W, hW⟩ : ∃ W, W = ((w.alloc (.cells #[.int .i64 o, .string s, .string t, .int .i64 a, .int .i64 b, .int .i64 c, .int .i64 n] 33)).alloc (.cells #[.int .i64 o, .string s, .string t, .int .i64 a, .int .i64 b, .int .i64 c, .int .i64 0] 33)).drew := ⟨_, rfl⟩
  have hB : Below w.heap.size w W := by rw [hW]; exact (((Below.refl w.heap.size w).alloc (Nat.le_refl _) _).alloc (by simp) _).drew
  have hR : W.heap[w.heap.size]? = some (.cells #[.int .i64 o, .string s, .string t, .int .i64 a, .int .i64 b, .int .i64 c, .int .i64 n] 33 (0, 0)) := by
    rw [hW]; exact (Below.heap_alloc _ _ _ (by simp)).trans (heap_alloc_new _ _)
  have hR2 : W.heap[w.heap.size + 1]? = some (.cells #[.int .i64 o, .string s, .string t, .int .i64 a, .int .i64 b, .int .i64 c, .int .i64 0] 33 (0, 0)) := by
    rw [hW, show w.heap.size + 1 = (w.alloc (.cells #[.int .i64 o, .string s, .string t, .int .i64 a, .int .i64 b, .int .i64 c, .int .i64 n] 33)).heap.size from by simp]; exact heap_alloc_new _ _
  have hS : W.heap.size = w.heap.size + 2 := by rw [hW]; simp
  have HB := Lib.hid hB
  have HR := Lib.hid hR
  have HS := Lib.hid hS
  have HC := Lib.hid (fun V (h : Below W.heap.size W V) => row7 ((h.block _ (by omega)).trans hR))
  have HD := Lib.hid (row7 hR2)
  have HW := Lib.hid hW
  clear hB hR hR2 hS hW
  subst h
  cases hE : eqC 5 s t a b c n 5 s t a b c 0
  · go_enter Tryz.func78, Tryz.ntmps78
    go_wp2_with fail
    go_region
    all_goals
      rw [← HW.out]
      obtain ⟨x0, x1, x2, x3, x4, x5, x6⟩ := HC.out W (Below.refl _ _)
      obtain ⟨z0, z1, z2, z3, z4, z5, z6⟩ := HD.out
      go_wp2_with fail
      go_ret
      exact ⟨by rw [HF.out, hE]; rfl, HB.out⟩
  cases hM : Nm.may t.data.toList
  · go_enter Tryz.func78, Tryz.ntmps78
    go_wp2_with fail
    go_region
    all_goals
      rw [← HW.out]
      obtain ⟨x0, x1, x2, x3, x4, x5, x6⟩ := HC.out W (Below.refl _ _)
      obtain ⟨z0, z1, z2, z3, z4, z5, z6⟩ := HD.out
      go_wp2_with (go_at_call 77; (refine (Nm.may_any _ _ HT.out).mono ?_); rintro e w1 ⟨rfl, hb1⟩; rw [hM]; have B1 := Lib.hid hb1; clear hb1; obtain ⟨y0, y1, y2, y3, y4, y5, y6⟩ := HC.out w1 B1.out)
      go_ret
      exact ⟨by rw [HF.out, hE, hM]; rfl, HB.out.trans (B1.out.mono HB.out.size)⟩
  · go_enter Tryz.func78, Tryz.ntmps78
    go_wp2_with fail
    go_region
    all_goals
      rw [← HW.out]
      obtain ⟨x0, x1, x2, x3, x4, x5, x6⟩ := HC.out W (Below.refl _ _)
      obtain ⟨z0, z1, z2, z3, z4, z5, z6⟩ := HD.out
      go_wp2_with (first
        | (go_at_call 77; (refine (Nm.may_any _ _ HT.out).mono ?_); rintro e w1 ⟨rfl, hb1⟩; rw [hM]; have B1 := Lib.hid hb1; clear hb1; obtain ⟨y0, y1, y2, y3, y4, y5, y6⟩ := HC.out w1 B1.out)
        | (go_at_call 118; (refine (Vc.may_any _ _ _ _).mono ?_); rintro e w2 ⟨rfl, hb2⟩; have B2 := Lib.hid hb2; clear hb2))
      go_ret
      exact ⟨by rw [HF.out, hE, hM]; rfl, HB.out.trans ((B1.out.trans (B2.out.mono B1.out.size)).mono HB.out.size)⟩
theorem fit_report (o : Int) (h : o = 7) (s t : ByteArray) (a b c n : Int) (w : World) (ht : t.size ≤ 281474976710656) : Calls Tryz.prog 78 #[.agg #[.int .i64 o, .string s, .string t, .int .i64 a, .int .i64 b, .int .i64 c, .int .i64 n]] w (FitPost o t a b c n w) := by
  have hf : fitF o t a b c n = (eqC o s t a b c n o s t 0 0 0 n && Nm.may t.data.toList && (n == 1 || n == 2)) := by
    unfold fitF eqC
    subst h
    rw [beq_self_ba, beq_self_ba]
    try rw [eqV_self]
    simp [Bool.and_assoc]
  have HF := Lib.hid hf
  have HT := Lib.hid ht
  clear hf ht
  have q := eq25v
  obtain ⟨W, hW⟩ : ∃ W, W = ((w.alloc (.cells #[.int .i64 o, .string s, .string t, .int .i64 a, .int .i64 b, .int .i64 c, .int .i64 n] 33)).alloc (.cells #[.int .i64 o, .string s, .string t, .int .i64 0, .int .i64 0, .int .i64 0, .int .i64 n] 33)).drew := ⟨_, rfl⟩
  have hB : Below w.heap.size w W := by rw [hW]; exact (((Below.refl w.heap.size w).alloc (Nat.le_refl _) _).alloc (by simp) _).drew
  have hR : W.heap[w.heap.size]? = some (.cells #[.int .i64 o, .string s, .string t, .int .i64 a, .int .i64 b, .int .i64 c, .int .i64 n] 33 (0, 0)) := by
    rw [hW]; exact (Below.heap_alloc _ _ _ (by simp)).trans (heap_alloc_new _ _)
  have hR2 : W.heap[w.heap.size + 1]? = some (.cells #[.int .i64 o, .string s, .string t, .int .i64 0, .int .i64 0, .int .i64 0, .int .i64 n] 33 (0, 0)) := by
    rw [hW, show w.heap.size + 1 = (w.alloc (.cells #[.int .i64 o, .string s, .string t, .int .i64 a, .int .i64 b, .int .i64 c, .int .i64 n] 33)).heap.size from by simp]; exact heap_alloc_new _ _
  have hS : W.heap.size = w.heap.size + 2 := by rw [hW]; simp
  have HB := Lib.hid hB
  have HR := Lib.hid hR
  have HS := Lib.hid hS
  have HC := Lib.hid (fun V (h : Below W.heap.size W V) => row7 ((h.block _ (by omega)).trans hR))
  have HD := Lib.hid (row7 hR2)
  have HW := Lib.hid hW
  clear hB hR hR2 hS hW
  subst h
  cases hE : eqC 7 s t a b c n 7 s t 0 0 0 n
  · go_enter Tryz.func78, Tryz.ntmps78
    go_wp2_with fail
    go_region
    all_goals
      rw [← HW.out]
      obtain ⟨x0, x1, x2, x3, x4, x5, x6⟩ := HC.out W (Below.refl _ _)
      obtain ⟨z0, z1, z2, z3, z4, z5, z6⟩ := HD.out
      go_wp2_with fail
      go_ret
      exact ⟨by rw [HF.out, hE]; rfl, HB.out⟩
  cases hM : Nm.may t.data.toList
  · go_enter Tryz.func78, Tryz.ntmps78
    go_wp2_with fail
    go_region
    all_goals
      rw [← HW.out]
      obtain ⟨x0, x1, x2, x3, x4, x5, x6⟩ := HC.out W (Below.refl _ _)
      obtain ⟨z0, z1, z2, z3, z4, z5, z6⟩ := HD.out
      go_wp2_with (go_at_call 77; (refine (Nm.may_any _ _ HT.out).mono ?_); rintro e w1 ⟨rfl, hb1⟩; rw [hM]; have B1 := Lib.hid hb1; clear hb1; obtain ⟨y0, y1, y2, y3, y4, y5, y6⟩ := HC.out w1 B1.out)
      go_ret
      exact ⟨by rw [HF.out, hE, hM]; rfl, HB.out.trans (B1.out.mono HB.out.size)⟩
  by_cases h1 : n = 1
  · subst h1
    go_enter Tryz.func78, Tryz.ntmps78
    go_wp2_with fail
    go_region
    all_goals
      rw [← HW.out]
      obtain ⟨x0, x1, x2, x3, x4, x5, x6⟩ := HC.out W (Below.refl _ _)
      obtain ⟨z0, z1, z2, z3, z4, z5, z6⟩ := HD.out
      go_wp2_with (go_at_call 77; (refine (Nm.may_any _ _ HT.out).mono ?_); rintro e w1 ⟨rfl, hb1⟩; rw [hM]; have B1 := Lib.hid hb1; clear hb1; obtain ⟨y0, y1, y2, y3, y4, y5, y6⟩ := HC.out w1 B1.out)
      go_ret
      exact ⟨by rw [HF.out, hE, hM]; rfl, HB.out.trans (B1.out.mono HB.out.size)⟩
  by_cases h2 : n = 2
  · subst h2
    go_enter Tryz.func78, Tryz.ntmps78
    go_wp2_with fail
    go_region
    all_goals
      rw [← HW.out]
      obtain ⟨x0, x1, x2, x3, x4, x5, x6⟩ := HC.out W (Below.refl _ _)
      obtain ⟨z0, z1, z2, z3, z4, z5, z6⟩ := HD.out
      go_wp2_with (go_at_call 77; (refine (Nm.may_any _ _ HT.out).mono ?_); rintro e w1 ⟨rfl, hb1⟩; rw [hM]; have B1 := Lib.hid hb1; clear hb1; obtain ⟨y0, y1, y2, y3, y4, y5, y6⟩ := HC.out w1 B1.out)
      go_ret
      exact ⟨by rw [HF.out, hE, hM]; rfl, HB.out.trans (B1.out.mono HB.out.size)⟩
  have g1 : (n == 1) = false := by simpa using h1
  have g2 : (n == 2) = false := by simpa using h2
  go_enter Tryz.func78, Tryz.ntmps78
  go_wp2_with fail
  go_region
  all_goals
    rw [← HW.out]
    obtain ⟨x0, x1, x2, x3, x4, x5, x6⟩ := HC.out W (Below.refl _ _)
    obtain ⟨z0, z1, z2, z3, z4, z5, z6⟩ := HD.out
    go_wp2_with (go_at_call 77; (refine (Nm.may_any _ _ HT.out).mono ?_); rintro e w1 ⟨rfl, hb1⟩; rw [hM]; have B1 := Lib.hid hb1; clear hb1; obtain ⟨y0, y1, y2, y3, y4, y5, y6⟩ := HC.out w1 B1.out)
    go_ret
    exact ⟨by rw [HF.out, hE, hM, g1, g2]; rfl, HB.out.trans (B1.out.mono HB.out.size)⟩
theorem fieldsFit_any (o : Int) (s t : ByteArray) (a b c n : Int) (w : World) (ht : t.size ≤ 281474976710656) : Calls Tryz.prog 78 #[.agg #[.int .i64 o, .string s, .string t, .int .i64 a, .int .i64 b, .int .i64 c, .int .i64 n]] w (FitPost o t a b c n w) := by
  by_cases h1 : o = 1
  · exact fit_node o h1 s t a b c n w ht
  by_cases h2 : o = 2
  · exact fit_drain o h2 s t a b c n w ht
  by_cases h3 : o = 3
  · exact fit_drop o h3 s t a b c n w ht
  by_cases h4 : o = 4
  · exact fit_tenant o h4 s t a b c n w ht
  by_cases h5 : o = 5
  · exact fit_submit o h5 s t a b c n w ht
  by_cases h6 : o = 6
  · exact fit_kill o h6 s t a b c n w ht
  by_cases h7 : o = 7
  · exact fit_report o h7 s t a b c n w ht
  by_cases h8 : o = 8
  · exact fit_job o h8 s t a b c n w ht
  by_cases h9 : o = 9
  · exact fit_used o h9 s t a b c n w ht
  by_cases h10 : o = 10
  · exact fit_spent o h10 s t a b c n w ht
  exact fit_other o (by omega) s t a b c n w
def mayC (o : Int) (s t : ByteArray) (a b c n : Int) : Bool := Nm.may s.data.toList && fitF o t a b c n
def MayPost (o : Int) (s t : ByteArray) (a b c n : Int) (w : World) (e : Ending) (w' : World) : Prop := e = .returned (.bool (mayC o s t a b c n)) ∧ Below w.heap.size w w'
theorem mayPost {o : Int} {s t : ByteArray} {a b c n : Int} {w w' : World} {x : Bool} (h : x = mayC o s t a b c n) (hb : Below w.heap.size w w') : MayPost o s t a b c n w (.returned (.bool x)) w' := ⟨by rw [h], hb⟩
theorem may_any (o : Int) (s t : ByteArray) (a b c n : Int) (w : World) (hs : s.size ≤ 281474976710656) (ht : t.size ≤ 281474976710656) : Calls Tryz.prog 36 #[.agg #[.int .i64 o, .string s, .string t, .int .i64 a, .int .i64 b, .int .i64 c, .int .i64 n]] w (MayPost o s t a b c n w) := by
  have HS := Lib.hid hs
  have HT := Lib.hid ht
  have HB := Lib.hid ((Below.refl w.heap.size w).alloc (Nat.le_refl _) (.cells #[.int .i64 o, .string s, .string t, .int .i64 a, .int .i64 b, .int .i64 c, .int .i64 n] 33))
  have HR := Lib.hid (heap_alloc_new w (.cells #[.int .i64 o, .string s, .string t, .int .i64 a, .int .i64 b, .int .i64 c, .int .i64 n] 33))
  clear hs ht
  cases hm : Nm.may s.data.toList
  · go_enter Tryz.func36, Tryz.ntmps36
    go_wp2_with (go_at_call 77; (with_reducible refine (Nm.may_any _ _ HS.out).mono ?_); rintro e w1 ⟨rfl, hb1⟩; rw [hm]; have B1 := Lib.hid hb1; clear hb1)
    go_ret
    exact mayPost (by simp [mayC, hm]) (HB.out.trans (B1.out.mono HB.out.size))
  · go_enter Tryz.func36, Tryz.ntmps36
    go_wp2_with (first
      | (go_at_call 77; (with_reducible refine (Nm.may_any _ _ HS.out).mono ?_); rintro e w1 ⟨rfl, hb1⟩; rw [hm]; have B1 := Lib.hid hb1; obtain ⟨x0, x1, x2, x3, x4, x5, x6⟩ := row7 ((hb1.block w.heap.size (by simp)).trans HR.out); clear hb1)
      | (go_at_call 78; (with_reducible refine (fieldsFit_any _ _ _ _ _ _ _ _ HT.out).mono ?_); rintro e w2 ⟨rfl, hb2⟩; have B2 := Lib.hid hb2; clear hb2))
    go_ret
    exact mayPost (by simp [mayC, hm]) (HB.out.trans ((B1.out.trans (B2.out.mono B1.out.size)).mono HB.out.size))
def asksC (o : Int) (s t : ByteArray) (a b c n : Int) : Bool := (o == 8 || (o == 9 || o == 10)) && mayC o s t a b c n
def AsksPost (o : Int) (s t : ByteArray) (a b c n : Int) (w : World) (e : Ending) (w' : World) : Prop := e = .returned (.bool (asksC o s t a b c n)) ∧ Below w.heap.size w w'
theorem asksPost {o : Int} {s t : ByteArray} {a b c n : Int} {w w' : World} {x : Bool} (h : x = asksC o s t a b c n) (hb : Below w.heap.size w w') : AsksPost o s t a b c n w (.returned (.bool x)) w' := ⟨by rw [h], hb⟩
theorem asks_any (o : Int) (s t : ByteArray) (a b c n : Int) (w : World) (hs : s.size ≤ 281474976710656) (ht : t.size ≤ 281474976710656) : Calls Tryz.prog 73 #[.agg #[.int .i64 o, .string s, .string t, .int .i64 a, .int .i64 b, .int .i64 c, .int .i64 n]] w (AsksPost o s t a b c n w) := by
  have HS := Lib.hid hs
  have HT := Lib.hid ht
  have HB := Lib.hid ((Below.refl w.heap.size w).alloc (Nat.le_refl _) (.cells #[.int .i64 o, .string s, .string t, .int .i64 a, .int .i64 b, .int .i64 c, .int .i64 n] 33))
  clear hs ht
  by_cases h8 : o = 8
  · subst h8
    go_enter Tryz.func73, Tryz.ntmps73
    go_wp2_with (go_at_call 36; (with_reducible refine (may_any _ _ _ _ _ _ _ _ HS.out HT.out).mono ?_); rintro e w1 ⟨rfl, hb1⟩; have B1 := Lib.hid hb1; clear hb1)
    go_ret
    exact asksPost (by simp [asksC]) (HB.out.trans (B1.out.mono HB.out.size))
  by_cases h9 : o = 9
  · subst h9
    go_enter Tryz.func73, Tryz.ntmps73
    go_wp2_with (go_at_call 36; (with_reducible refine (may_any _ _ _ _ _ _ _ _ HS.out HT.out).mono ?_); rintro e w1 ⟨rfl, hb1⟩; have B1 := Lib.hid hb1; clear hb1)
    go_ret
    exact asksPost (by simp [asksC]) (HB.out.trans (B1.out.mono HB.out.size))
  by_cases h10 : o = 10
  · subst h10
    go_enter Tryz.func73, Tryz.ntmps73
    go_wp2_with (go_at_call 36; (with_reducible refine (may_any _ _ _ _ _ _ _ _ HS.out HT.out).mono ?_); rintro e w1 ⟨rfl, hb1⟩; have B1 := Lib.hid hb1; clear hb1)
    go_ret
    exact asksPost (by simp [asksC]) (HB.out.trans (B1.out.mono HB.out.size))
  have g8 : (o == 8) = false := by simpa using h8
  have g9 : (o == 9) = false := by simpa using h9
  have g10 : (o == 10) = false := by simpa using h10
  go_enter Tryz.func73, Tryz.ntmps73
  go_wp2_with fail
  go_ret
  exact asksPost (by simp [asksC, g8, g9, g10]) HB.out
end Go.Proofs.YtphclpjekpdifaaGreat.Wi
