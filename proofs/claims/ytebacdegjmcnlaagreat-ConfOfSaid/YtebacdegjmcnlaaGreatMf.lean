import Derived.Test.YtebacdegjmcnlaaGreatMb
namespace Go.Proofs.YtebacdegjmcnlaaGreat
open Go.RowKit Pl
set_option linter.unusedVariables false
set_option maxRecDepth 20000
def ez : ByteArray := ⟨#[]⟩
/-- the fields behind Name are as the number asks for -/
def fitF (o : Int) (t : ByteArray) (a b c n : Int) : Bool :=
  if o = 1 ∨ o = 4 then t.size == 0 && n == 0 && Vc.fitB 0 0 0 a b c
  else if o = 2 then t.size == 0 && eqV a b c 0 0 0 && (n == 0 || n == 1)
  else if o = 3 ∨ o = 6 ∨ o = 8 ∨ o = 9 ∨ o = 10 then t.size == 0 && eqV a b c 0 0 0 && n == 0
  else if o = 5 then n == 0 && Nm.may t.data.toList && Vc.fitB 0 0 0 a b c
  else if o = 7 then eqV a b c 0 0 0 && Nm.may t.data.toList && (n == 1 || n == 2)
  else false
theorem size0 (t : ByteArray) : (t.size == 0) = (t == ⟨#[]⟩) := by
  rw [Bool.eq_iff_iff]
  have h2 : (t == ⟨#[]⟩) = true ↔ t = ⟨#[]⟩ := by
    obtain ⟨⟨x⟩⟩ := t
    show ((⟨x⟩ : Array UInt8) == ⟨[]⟩) = true ↔ _
    simp
  rw [h2, beq_iff_eq]
  exact ⟨fun h => size_zero h, fun h => by rw [h]; rfl⟩
theorem beq_self_ba (t : ByteArray) : (t == t) = true := by
  obtain ⟨⟨x⟩⟩ := t
  show ((⟨x⟩ : Array UInt8) == ⟨x⟩) = true
  simp
theorem eqV_self (a b c : Int) : eqV a b c a b c = true := eqV_iff.2 ⟨rfl, rfl, rfl⟩
theorem eq25v (o : Int) (s t : ByteArray) (a b c n : Int) (o' : Int) (s' t' : ByteArray) (a' b' c' n' : Int) (w : World) : (binOp .eql 32 (.agg #[.int .i64 o, .string s, .string t, .int .i64 a, .int .i64 b, .int .i64 c, .int .i64 n]) (.agg #[.int .i64 o', .string s', .string t', .int .i64 a', .int .i64 b', .int .i64 c', .int .i64 n'])).run Tryz.prog w = .ok (.bool (eqC o s t a b c n o' s' t' a' b' c' n')) w := by
  rw [run_eql_struct]
  have := eq25 o s t a b c n o' s' t' a' b' c' n' w
  unfold cV at this
  rw [this]
  rfl
def FitPost (o : Int) (t : ByteArray) (a b c n : Int) (w : World) (e : Ending) (w' : World) : Prop := e = .returned (.bool (fitF o t a b c n)) ∧ Below w.heap.size w w'
theorem fit_node (o : Int) (h : o = 1) (s t : ByteArray) (a b c n : Int) (w : World) (ht : t.size ≤ 281474976710656) : Calls Tryz.prog 46 #[.agg #[.int .i64 o, .string s, .string t, .int .i64 a, .int .i64 b, .int .i64 c, .int .i64 n]] w (FitPost o t a b c n w) := by
  have hf : fitF o t a b c n = (eqC o s t a b c n o s ⟨#[]⟩ a b c 0 && Vc.fitB 0 0 0 a b c) := by
    unfold fitF eqC
    subst h
    rw [size0, beq_self_ba]
    try rw [beq_self_ba]
    try rw [eqV_self]
    simp [Bool.and_assoc]
  have HF := Lib.hid hf
  have HT := Lib.hid ht
  clear hf ht
  have q := eq25v
  subst h
  cases hE : eqC 1 s t a b c n 1 s ⟨#[]⟩ a b c 0
  · go_enter Tryz.func46, Tryz.ntmps46
    go_wp2_with fail
    go_ret
    exact ⟨by rw [HF.out, hE]; rfl, ((Below.refl _ w).alloc (Nat.le_refl _) _).alloc (by simp) _⟩
  · go_enter Tryz.func46, Tryz.ntmps46
    go_wp2_with (go_at_call 72; (refine (Vc.may_any _ _ _ _).mono ?_); rintro e w1 ⟨rfl, hb1⟩)
    go_ret
    exact ⟨by rw [HF.out, hE]; rfl, (((Below.refl _ w).alloc (Nat.le_refl _) _).alloc (by simp) _).trans (hb1.mono (by simp; omega))⟩
theorem fit_tenant (o : Int) (h : o = 4) (s t : ByteArray) (a b c n : Int) (w : World) (ht : t.size ≤ 281474976710656) : Calls Tryz.prog 46 #[.agg #[.int .i64 o, .string s, .string t, .int .i64 a, .int .i64 b, .int .i64 c, .int .i64 n]] w (FitPost o t a b c n w) := by
  have hf : fitF o t a b c n = (eqC o s t a b c n o s ⟨#[]⟩ a b c 0 && Vc.fitB 0 0 0 a b c) := by
    unfold fitF eqC
    subst h
    rw [size0, beq_self_ba]
    try rw [beq_self_ba]
    try rw [eqV_self]
    simp [Bool.and_assoc]
  have HF := Lib.hid hf
  have HT := Lib.hid ht
  clear hf ht
  have q := eq25v
  subst h
  cases hE : eqC 4 s t a b c n 4 s ⟨#[]⟩ a b c 0
  · go_enter Tryz.func46, Tryz.ntmps46
    go_wp2_with fail
    go_ret
    exact ⟨by rw [HF.out, hE]; rfl, ((Below.refl _ w).alloc (Nat.le_refl _) _).alloc (by simp) _⟩
  · go_enter Tryz.func46, Tryz.ntmps46
    go_wp2_with (go_at_call 72; (refine (Vc.may_any _ _ _ _).mono ?_); rintro e w1 ⟨rfl, hb1⟩)
    go_ret
    exact ⟨by rw [HF.out, hE]; rfl, (((Below.refl _ w).alloc (Nat.le_refl _) _).alloc (by simp) _).trans (hb1.mono (by simp; omega))⟩
theorem fit_drain (o : Int) (h : o = 2) (s t : ByteArray) (a b c n : Int) (w : World) (ht : t.size ≤ 281474976710656) : Calls Tryz.prog 46 #[.agg #[.int .i64 o, .string s, .string t, .int .i64 a, .int .i64 b, .int .i64 c, .int .i64 n]] w (FitPost o t a b c n w) := by
  have hf : fitF o t a b c n = (eqC o s t a b c n o s ⟨#[]⟩ 0 0 0 n && (n == 0 || n == 1)) := by
    unfold fitF eqC
    subst h
    rw [size0, beq_self_ba]
    try rw [beq_self_ba]
    try rw [eqV_self]
    simp [Bool.and_comm, Bool.and_left_comm]
  have HF := Lib.hid hf
  have HT := Lib.hid ht
  clear hf ht
  have q := eq25v
  subst h
  cases hE : eqC 2 s t a b c n 2 s ⟨#[]⟩ 0 0 0 n
  · go_enter Tryz.func46, Tryz.ntmps46
    go_wp2_with fail
    go_ret
    exact ⟨by rw [HF.out, hE]; rfl, ((Below.refl _ w).alloc (Nat.le_refl _) _).alloc (by simp) _⟩
  · by_cases h0 : n = 0
    · subst h0
      go_enter Tryz.func46, Tryz.ntmps46
      go_wp2_with fail
      go_ret
      exact ⟨by rw [HF.out, hE]; rfl, ((Below.refl _ w).alloc (Nat.le_refl _) _).alloc (by simp) _⟩
    · by_cases h1 : n = 1
      · subst h1
        go_enter Tryz.func46, Tryz.ntmps46
        go_wp2_with fail
        go_ret
        exact ⟨by rw [HF.out, hE]; rfl, ((Below.refl _ w).alloc (Nat.le_refl _) _).alloc (by simp) _⟩
      · have g0 : (n == 0) = false := by simpa using h0
        have g1 : (n == 1) = false := by simpa using h1
        go_enter Tryz.func46, Tryz.ntmps46
        go_wp2_with fail
        go_ret
        exact ⟨by rw [HF.out, hE, g0, g1]; rfl, ((Below.refl _ w).alloc (Nat.le_refl _) _).alloc (by simp) _⟩
theorem fit_drop (o : Int) (h : o = 3) (s t : ByteArray) (a b c n : Int) (w : World) (ht : t.size ≤ 281474976710656) : Calls Tryz.prog 46 #[.agg #[.int .i64 o, .string s, .string t, .int .i64 a, .int .i64 b, .int .i64 c, .int .i64 n]] w (FitPost o t a b c n w) := by
  have hf : fitF o t a b c n = (eqC o s t a b c n o s ⟨#[]⟩ 0 0 0 0) := by
    unfold fitF eqC
    subst h
    rw [size0, beq_self_ba]
    try rw [beq_self_ba]
    try rw [eqV_self]
    simp [Bool.and_comm, Bool.and_left_comm]
  have HF := Lib.hid hf
  have HT := Lib.hid ht
  clear hf ht
  have q := eq25v
  subst h
  cases hE : eqC 3 s t a b c n 3 s ⟨#[]⟩ 0 0 0 0
  · go_enter Tryz.func46, Tryz.ntmps46
    go_wp2_with fail
    go_ret
    exact ⟨by rw [HF.out, hE]; rfl, ((Below.refl _ w).alloc (Nat.le_refl _) _).alloc (by simp) _⟩
  · go_enter Tryz.func46, Tryz.ntmps46
    go_wp2_with fail
    go_ret
    exact ⟨by rw [HF.out, hE]; rfl, ((Below.refl _ w).alloc (Nat.le_refl _) _).alloc (by simp) _⟩
theorem fit_kill (o : Int) (h : o = 6) (s t : ByteArray) (a b c n : Int) (w : World) (ht : t.size ≤ 281474976710656) : Calls Tryz.prog 46 #[.agg #[.int .i64 o, .string s, .string t, .int .i64 a, .int .i64 b, .int .i64 c, .int .i64 n]] w (FitPost o t a b c n w) := by
  have hf : fitF o t a b c n = (eqC o s t a b c n o s ⟨#[]⟩ 0 0 0 0) := by
    unfold fitF eqC
    subst h
    rw [size0, beq_self_ba]
    try rw [beq_self_ba]
    try rw [eqV_self]
    simp [Bool.and_comm, Bool.and_left_comm]
  have HF := Lib.hid hf
  have HT := Lib.hid ht
  clear hf ht
  have q := eq25v
  subst h
  cases hE : eqC 6 s t a b c n 6 s ⟨#[]⟩ 0 0 0 0
  · go_enter Tryz.func46, Tryz.ntmps46
    go_wp2_with fail
    go_ret
    exact ⟨by rw [HF.out, hE]; rfl, ((Below.refl _ w).alloc (Nat.le_refl _) _).alloc (by simp) _⟩
  · go_enter Tryz.func46, Tryz.ntmps46
    go_wp2_with fail
    go_ret
    exact ⟨by rw [HF.out, hE]; rfl, ((Below.refl _ w).alloc (Nat.le_refl _) _).alloc (by simp) _⟩
theorem fit_job (o : Int) (h : o = 8) (s t : ByteArray) (a b c n : Int) (w : World) (ht : t.size ≤ 281474976710656) : Calls Tryz.prog 46 #[.agg #[.int .i64 o, .string s, .string t, .int .i64 a, .int .i64 b, .int .i64 c, .int .i64 n]] w (FitPost o t a b c n w) := by
  have hf : fitF o t a b c n = (eqC o s t a b c n o s ⟨#[]⟩ 0 0 0 0) := by
    unfold fitF eqC
    subst h
    rw [size0, beq_self_ba]
    try rw [beq_self_ba]
    try rw [eqV_self]
    simp [Bool.and_comm, Bool.and_left_comm]
  have HF := Lib.hid hf
  have HT := Lib.hid ht
  clear hf ht
  have q := eq25v
  subst h
  cases hE : eqC 8 s t a b c n 8 s ⟨#[]⟩ 0 0 0 0
  · go_enter Tryz.func46, Tryz.ntmps46
    go_wp2_with fail
    go_ret
    exact ⟨by rw [HF.out, hE]; rfl, ((Below.refl _ w).alloc (Nat.le_refl _) _).alloc (by simp) _⟩
  · go_enter Tryz.func46, Tryz.ntmps46
    go_wp2_with fail
    go_ret
    exact ⟨by rw [HF.out, hE]; rfl, ((Below.refl _ w).alloc (Nat.le_refl _) _).alloc (by simp) _⟩
theorem fit_used (o : Int) (h : o = 9) (s t : ByteArray) (a b c n : Int) (w : World) (ht : t.size ≤ 281474976710656) : Calls Tryz.prog 46 #[.agg #[.int .i64 o, .string s, .string t, .int .i64 a, .int .i64 b, .int .i64 c, .int .i64 n]] w (FitPost o t a b c n w) := by
  have hf : fitF o t a b c n = (eqC o s t a b c n o s ⟨#[]⟩ 0 0 0 0) := by
    unfold fitF eqC
    subst h
    rw [size0, beq_self_ba]
    try rw [beq_self_ba]
    try rw [eqV_self]
    simp [Bool.and_comm, Bool.and_left_comm]
  have HF := Lib.hid hf
  have HT := Lib.hid ht
  clear hf ht
  have q := eq25v
  subst h
  cases hE : eqC 9 s t a b c n 9 s ⟨#[]⟩ 0 0 0 0
  · go_enter Tryz.func46, Tryz.ntmps46
    go_wp2_with fail
    go_ret
    exact ⟨by rw [HF.out, hE]; rfl, ((Below.refl _ w).alloc (Nat.le_refl _) _).alloc (by simp) _⟩
  · go_enter Tryz.func46, Tryz.ntmps46
    go_wp2_with fail
    go_ret
    exact ⟨by rw [HF.out, hE]; rfl, ((Below.refl _ w).alloc (Nat.le_refl _) _).alloc (by simp) _⟩
theorem fit_spent (o : Int) (h : o = 10) (s t : ByteArray) (a b c n : Int) (w : World) (ht : t.size ≤ 281474976710656) : Calls Tryz.prog 46 #[.agg #[.int .i64 o, .string s, .string t, .int .i64 a, .int .i64 b, .int .i64 c, .int .i64 n]] w (FitPost o t a b c n w) := by
  have hf : fitF o t a b c n = (eqC o s t a b c n o s ⟨#[]⟩ 0 0 0 0) := by
    unfold fitF eqC
    subst h
    rw [size0, beq_self_ba]
    try rw [beq_self_ba]
    try rw [eqV_self]
    simp [Bool.and_comm, Bool.and_left_comm]
  have HF := Lib.hid hf
  have HT := Lib.hid ht
  clear hf ht
  have q := eq25v
  subst h
  cases hE : eqC 10 s t a b c n 10 s ⟨#[]⟩ 0 0 0 0
  · go_enter Tryz.func46, Tryz.ntmps46
    go_wp2_with fail
    go_ret
    exact ⟨by rw [HF.out, hE]; rfl, ((Below.refl _ w).alloc (Nat.le_refl _) _).alloc (by simp) _⟩
  · go_enter Tryz.func46, Tryz.ntmps46
    go_wp2_with fail
    go_ret
    exact ⟨by rw [HF.out, hE]; rfl, ((Below.refl _ w).alloc (Nat.le_refl _) _).alloc (by simp) _⟩
theorem fit_other (o : Int) (h : ¬ (o = 1 ∨ o = 2 ∨ o = 3 ∨ o = 4 ∨ o = 5 ∨ o = 6 ∨ o = 7 ∨ o = 8 ∨ o = 9 ∨ o = 10)) (s t : ByteArray) (a b c n : Int) (w : World) : Calls Tryz.prog 46 #[.agg #[.int .i64 o, .string s, .string t, .int .i64 a, .int .i64 b, .int .i64 c, .int .i64 n]] w (FitPost o t a b c n w) := by
  have hf : fitF o t a b c n = false := by
    unfold fitF
    rw [if_neg (by omega), if_neg (by omega), if_neg (by omega), if_neg (by omega), if_neg (by omega)]
  have HF := Lib.hid hf
  clear hf
  have g1 : (o == 1) = false := by simp; omega
  have g2 : (o == 2) = false := by simp; omega
  have g3 : (o == 3) = false := by simp; omega
  have g4 : (o == 4) = false := by simp; omega
  have g5 : (o == 5) = false := by simp; omega
  have g6 : (o == 6) = false := by simp; omega
  have g7 : (o == 7) = false := by simp; omega
  have g8 : (o == 8) = false := by simp; omega
  have g9 : (o == 9) = false := by simp; omega
  have g10 : (o == 10) = false := by simp; omega
  clear h
  go_enter Tryz.func46, Tryz.ntmps46
  go_wp2_with fail
  go_ret
  exact ⟨by rw [HF.out]; rfl, ((Below.refl _ w).alloc (Nat.le_refl _) _).alloc (by simp) _⟩
end Go.Proofs.YtebacdegjmcnlaaGreat
