import Derived.Test.YtebacdegjmcnlaaGreatMg
import Derived.Test.YtebacdegjmcnlaaGreatNc
namespace Go.Proofs.YtebacdegjmcnlaaGreat
open Go.RowKit Pl
set_option linter.unusedVariables false
set_option maxRecDepth 20000
theorem neq23v (a b c x y z : Int) (w : World) : (binOp .neq 30 (.agg #[.int .i64 a, .int .i64 b, .int .i64 c]) (.agg #[.int .i64 x, .int .i64 y, .int .i64 z])).run Tryz.prog w = .ok (.bool (!eqV a b c x y z)) w := by
  rw [run_neq_struct, show (10000 : Nat) = 9998 + 2 from rfl, eq23]
  rfl
theorem bld23 (w : World) : (Instr.build 30 #[]).run Tryz.prog w = .ok (.agg #[.int .i64 0, .int .i64 0, .int .i64 0]) w := Vc.build23_0 w
/-- a command is valid -/
def mayC (o : Int) (s t : ByteArray) (a b c n : Int) : Bool := Nm.may s.data.toList && fitF o t a b c n
theorem refName (s : ByteArray) (w : World) (hs : s.size ≤ 281474976710656) : Calls Tryz.prog 95 #[.string s] w fun e w' => e = .returned (.bool (Nm.may s.data.toList)) ∧ w = w' := by
  have := Nm.refMay_str s.data.toList w (by simpa using hs)
  rwa [Nm.str_list] at this
def MayPost (o : Int) (s t : ByteArray) (a b c n : Int) (w : World) (e : Ending) (w' : World) : Prop := e = .returned (.bool (mayC o s t a b c n)) ∧ Below w.heap.size w w'
theorem mayPost {o : Int} {s t : ByteArray} {a b c n : Int} {w w' : World} {x : Bool} (h : x = mayC o s t a b c n) (hb : Below w.heap.size w w') : MayPost o s t a b c n w (.returned (.bool x)) w' := ⟨by rw [h], hb⟩
theorem toList0 {t : ByteArray} (h : (t.size == 0) = false) : (t.toList == []) = false := by
  rw [size0] at h
  rw [show ([] : List UInt8) = (⟨#[]⟩ : ByteArray).toList from by rw [ByteArray.toList_eq], ← beq_toListBytes]
  exact h
theorem refMay_1 (o : Int) (h : o = 1) (s t : ByteArray) (a b c n : Int) (w : World) (hs : s.size ≤ 281474976710656) (ht : t.size ≤ 281474976710656) (hm : Nm.may s.data.toList = true) : Calls Tryz.prog 65 #[.agg #[.int .i64 o, .string s, .string t, .int .i64 a, .int .i64 b, .int .i64 c, .int .i64 n]] w (MayPost o s t a b c n w) := by
  have q := neq23v
  have q2 := bld23
  have HS := Lib.hid hs
  have HT := Lib.hid ht
  have HBB := Lib.hid (((Below.refl w.heap.size w).alloc (Nat.le_refl _) (.cells #[.int .i64 o, .string s, .string t, .int .i64 a, .int .i64 b, .int .i64 c, .int .i64 n] 32)).alloc (by simp) (.cells #[.int .i64 0, .int .i64 0, .int .i64 0] 30))
  clear hs ht
  subst h
  cases hz : (t.size == 0)
  · have h1 : (t.toList == []) = false := toList0 hz
    go_enter Tryz.func65, Tryz.ntmps65
    go_wp2_with (first | (go_at_call 95; (with_reducible refine (refName _ _ HS.out).mono ?_); rintro e w1 ⟨rfl, rfl⟩; rw [hm]))
    go_ret
    exact mayPost (by simp [mayC, fitF, hm, hz]) (HBB.out)
  obtain rfl : t = ⟨#[]⟩ := size_zero (by simpa using hz)
  cases hv : Vc.fitB 0 0 0 a b c
  · go_enter Tryz.func65, Tryz.ntmps65
    go_wp2_with (first | (go_at_call 95; (with_reducible refine (refName _ _ HS.out).mono ?_); rintro e w1 ⟨rfl, rfl⟩; rw [hm]) | (go_at_call 96; (refine (Vc.refMay_any _ _ _ _).mono ?_); rintro e w2 ⟨rfl, hb2⟩; rw [hv]; have B2 := Lib.hid hb2; clear hb2; have r2 := row7 ((B2.out.block w.heap.size (by simp; omega)).trans ((Below.heap_alloc _ _ _ (by simp)).trans (heap_alloc_new w (.cells #[.int .i64 1, .string s, .string ⟨#[]⟩, .int .i64 a, .int .i64 b, .int .i64 c, .int .i64 n] 32)))); obtain ⟨x0, x1, x2, x3, x4, x5, x6⟩ := r2))
    go_ret
    exact mayPost (by simp [mayC, fitF, hm, hz, hv]) (HBB.out.trans (B2.out.mono HBB.out.size))
  go_enter Tryz.func65, Tryz.ntmps65
  go_wp2_with (first | (go_at_call 95; (with_reducible refine (refName _ _ HS.out).mono ?_); rintro e w1 ⟨rfl, rfl⟩; rw [hm]) | (go_at_call 96; (refine (Vc.refMay_any _ _ _ _).mono ?_); rintro e w2 ⟨rfl, hb2⟩; rw [hv]; have B2 := Lib.hid hb2; clear hb2; have r2 := row7 ((B2.out.block w.heap.size (by simp; omega)).trans ((Below.heap_alloc _ _ _ (by simp)).trans (heap_alloc_new w (.cells #[.int .i64 1, .string s, .string ⟨#[]⟩, .int .i64 a, .int .i64 b, .int .i64 c, .int .i64 n] 32)))); obtain ⟨x0, x1, x2, x3, x4, x5, x6⟩ := r2))
  go_ret
  exact mayPost (by simp [mayC, fitF, hm, hz, hv]) (HBB.out.trans (B2.out.mono HBB.out.size))
theorem refMay_2 (o : Int) (h : o = 2) (s t : ByteArray) (a b c n : Int) (w : World) (hs : s.size ≤ 281474976710656) (ht : t.size ≤ 281474976710656) (hm : Nm.may s.data.toList = true) : Calls Tryz.prog 65 #[.agg #[.int .i64 o, .string s, .string t, .int .i64 a, .int .i64 b, .int .i64 c, .int .i64 n]] w (MayPost o s t a b c n w) := by
  have q := neq23v
  have q2 := bld23
  have HS := Lib.hid hs
  have HT := Lib.hid ht
  have HBB := Lib.hid (((Below.refl w.heap.size w).alloc (Nat.le_refl _) (.cells #[.int .i64 o, .string s, .string t, .int .i64 a, .int .i64 b, .int .i64 c, .int .i64 n] 32)).alloc (by simp) (.cells #[.int .i64 0, .int .i64 0, .int .i64 0] 30))
  clear hs ht
  subst h
  cases hz : (t.size == 0)
  · have h1 : (t.toList == []) = false := toList0 hz
    go_enter Tryz.func65, Tryz.ntmps65
    go_wp2_with (first | (go_at_call 95; (with_reducible refine (refName _ _ HS.out).mono ?_); rintro e w1 ⟨rfl, rfl⟩; rw [hm]))
    go_ret
    exact mayPost (by simp [mayC, fitF, hm, hz]) (HBB.out)
  obtain rfl : t = ⟨#[]⟩ := size_zero (by simpa using hz)
  cases hv : eqV a b c 0 0 0
  · go_enter Tryz.func65, Tryz.ntmps65
    go_wp2_with (first | (go_at_call 95; (with_reducible refine (refName _ _ HS.out).mono ?_); rintro e w1 ⟨rfl, rfl⟩; rw [hm]))
    go_ret
    exact mayPost (by simp [mayC, fitF, hm, hz, hv]) (HBB.out)
  by_cases h1 : n = 0
  · subst h1
    go_enter Tryz.func65, Tryz.ntmps65
    go_wp2_with (first | (go_at_call 95; (with_reducible refine (refName _ _ HS.out).mono ?_); rintro e w1 ⟨rfl, rfl⟩; rw [hm]))
    go_ret
    exact mayPost (by simp [mayC, fitF, hm, hz, hv]) (HBB.out)
  by_cases h2 : n = 1
  · subst h2
    go_enter Tryz.func65, Tryz.ntmps65
    go_wp2_with (first | (go_at_call 95; (with_reducible refine (refName _ _ HS.out).mono ?_); rintro e w1 ⟨rfl, rfl⟩; rw [hm]))
    go_ret
    exact mayPost (by simp [mayC, fitF, hm, hz, hv]) (HBB.out)
  have g1 : (n == 0) = false := by simpa using h1
  have g2 : (n == 1) = false := by simpa using h2
  go_enter Tryz.func65, Tryz.ntmps65
  go_wp2_with (first | (go_at_call 95; (with_reducible refine (refName _ _ HS.out).mono ?_); rintro e w1 ⟨rfl, rfl⟩; rw [hm]))
  go_ret
  exact mayPost (by simp [mayC, fitF, hm, hz, hv, g1, g2]) (HBB.out)
theorem refMay_3 (o : Int) (h : o = 3) (s t : ByteArray) (a b c n : Int) (w : World) (hs : s.size ≤ 281474976710656) (ht : t.size ≤ 281474976710656) (hm : Nm.may s.data.toList = true) : Calls Tryz.prog 65 #[.agg #[.int .i64 o, .string s, .string t, .int .i64 a, .int .i64 b, .int .i64 c, .int .i64 n]] w (MayPost o s t a b c n w) := by
  have q := neq23v
  have q2 := bld23
  have HS := Lib.hid hs
  have HT := Lib.hid ht
  have HBB := Lib.hid (((Below.refl w.heap.size w).alloc (Nat.le_refl _) (.cells #[.int .i64 o, .string s, .string t, .int .i64 a, .int .i64 b, .int .i64 c, .int .i64 n] 32)).alloc (by simp) (.cells #[.int .i64 0, .int .i64 0, .int .i64 0] 30))
  clear hs ht
  subst h
  cases hz : (t.size == 0)
  · have h1 : (t.toList == []) = false := toList0 hz
    go_enter Tryz.func65, Tryz.ntmps65
    go_wp2_with (first | (go_at_call 95; (with_reducible refine (refName _ _ HS.out).mono ?_); rintro e w1 ⟨rfl, rfl⟩; rw [hm]))
    go_ret
    exact mayPost (by simp [mayC, fitF, hm, hz]) (HBB.out)
  obtain rfl : t = ⟨#[]⟩ := size_zero (by simpa using hz)
  cases hv : eqV a b c 0 0 0
  · go_enter Tryz.func65, Tryz.ntmps65
    go_wp2_with (first | (go_at_call 95; (with_reducible refine (refName _ _ HS.out).mono ?_); rintro e w1 ⟨rfl, rfl⟩; rw [hm]))
    go_ret
    exact mayPost (by simp [mayC, fitF, hm, hz, hv]) (HBB.out)
  go_enter Tryz.func65, Tryz.ntmps65
  go_wp2_with (first | (go_at_call 95; (with_reducible refine (refName _ _ HS.out).mono ?_); rintro e w1 ⟨rfl, rfl⟩; rw [hm]))
  go_ret
  exact mayPost (by simp [mayC, fitF, hm, hz, hv]) (HBB.out)
theorem refMay_4 (o : Int) (h : o = 4) (s t : ByteArray) (a b c n : Int) (w : World) (hs : s.size ≤ 281474976710656) (ht : t.size ≤ 281474976710656) (hm : Nm.may s.data.toList = true) : Calls Tryz.prog 65 #[.agg #[.int .i64 o, .string s, .string t, .int .i64 a, .int .i64 b, .int .i64 c, .int .i64 n]] w (MayPost o s t a b c n w) := by
  have q := neq23v
  have q2 := bld23
  have HS := Lib.hid hs
  have HT := Lib.hid ht
  have HBB := Lib.hid (((Below.refl w.heap.size w).alloc (Nat.le_refl _) (.cells #[.int .i64 o, .string s, .string t, .int .i64 a, .int .i64 b, .int .i64 c, .int .i64 n] 32)).alloc (by simp) (.cells #[.int .i64 0, .int .i64 0, .int .i64 0] 30))
  clear hs ht
  subst h
  cases hz : (t.size == 0)
  · have h1 : (t.toList == []) = false := toList0 hz
    go_enter Tryz.func65, Tryz.ntmps65
    go_wp2_with (first | (go_at_call 95; (with_reducible refine (refName _ _ HS.out).mono ?_); rintro e w1 ⟨rfl, rfl⟩; rw [hm]))
    go_ret
    exact mayPost (by simp [mayC, fitF, hm, hz]) (HBB.out)
  obtain rfl : t = ⟨#[]⟩ := size_zero (by simpa using hz)
  cases hv : Vc.fitB 0 0 0 a b c
  · go_enter Tryz.func65, Tryz.ntmps65
    go_wp2_with (first | (go_at_call 95; (with_reducible refine (refName _ _ HS.out).mono ?_); rintro e w1 ⟨rfl, rfl⟩; rw [hm]) | (go_at_call 96; (refine (Vc.refMay_any _ _ _ _).mono ?_); rintro e w2 ⟨rfl, hb2⟩; rw [hv]; have B2 := Lib.hid hb2; clear hb2; have r2 := row7 ((B2.out.block w.heap.size (by simp; omega)).trans ((Below.heap_alloc _ _ _ (by simp)).trans (heap_alloc_new w (.cells #[.int .i64 4, .string s, .string ⟨#[]⟩, .int .i64 a, .int .i64 b, .int .i64 c, .int .i64 n] 32)))); obtain ⟨x0, x1, x2, x3, x4, x5, x6⟩ := r2))
    go_ret
    exact mayPost (by simp [mayC, fitF, hm, hz, hv]) (HBB.out.trans (B2.out.mono HBB.out.size))
  go_enter Tryz.func65, Tryz.ntmps65
  go_wp2_with (first | (go_at_call 95; (with_reducible refine (refName _ _ HS.out).mono ?_); rintro e w1 ⟨rfl, rfl⟩; rw [hm]) | (go_at_call 96; (refine (Vc.refMay_any _ _ _ _).mono ?_); rintro e w2 ⟨rfl, hb2⟩; rw [hv]; have B2 := Lib.hid hb2; clear hb2; have r2 := row7 ((B2.out.block w.heap.size (by simp; omega)).trans ((Below.heap_alloc _ _ _ (by simp)).trans (heap_alloc_new w (.cells #[.int .i64 4, .string s, .string ⟨#[]⟩, .int .i64 a, .int .i64 b, .int .i64 c, .int .i64 n] 32)))); obtain ⟨x0, x1, x2, x3, x4, x5, x6⟩ := r2))
  go_ret
  exact mayPost (by simp [mayC, fitF, hm, hz, hv]) (HBB.out.trans (B2.out.mono HBB.out.size))
theorem refMay_5 (o : Int) (h : o = 5) (s t : ByteArray) (a b c n : Int) (w : World) (hs : s.size ≤ 281474976710656) (ht : t.size ≤ 281474976710656) (hm : Nm.may s.data.toList = true) : Calls Tryz.prog 65 #[.agg #[.int .i64 o, .string s, .string t, .int .i64 a, .int .i64 b, .int .i64 c, .int .i64 n]] w (MayPost o s t a b c n w) := by
  have q := neq23v
  have q2 := bld23
  have HS := Lib.hid hs
  have HT := Lib.hid ht
  have HBB := Lib.hid (((Below.refl w.heap.size w).alloc (Nat.le_refl _) (.cells #[.int .i64 o, .string s, .string t, .int .i64 a, .int .i64 b, .int .i64 c, .int .i64 n] 32)).alloc (by simp) (.cells #[.int .i64 0, .int .i64 0, .int .i64 0] 30))
  clear hs ht
  subst h
  cases hu : Nm.may t.data.toList
  · go_enter Tryz.func65, Tryz.ntmps65
    go_wp2_with (first | (go_at_call 95; (with_reducible refine (refName _ _ HS.out).mono ?_); rintro e w1 ⟨rfl, rfl⟩; rw [hm]) | (go_at_call 95; (with_reducible refine (refName _ _ HT.out).mono ?_); rintro e w1 ⟨rfl, rfl⟩; rw [hu]))
    go_ret
    exact mayPost (by simp [mayC, fitF, hm, hu]) (HBB.out)
  cases hv : Vc.fitB 0 0 0 a b c
  · go_enter Tryz.func65, Tryz.ntmps65
    go_wp2_with (first | (go_at_call 95; (with_reducible refine (refName _ _ HS.out).mono ?_); rintro e w1 ⟨rfl, rfl⟩; rw [hm]) | (go_at_call 95; (with_reducible refine (refName _ _ HT.out).mono ?_); rintro e w1 ⟨rfl, rfl⟩; rw [hu]) | (go_at_call 96; (refine (Vc.refMay_any _ _ _ _).mono ?_); rintro e w2 ⟨rfl, hb2⟩; rw [hv]; have B2 := Lib.hid hb2; clear hb2; have r2 := row7 ((B2.out.block w.heap.size (by simp; omega)).trans ((Below.heap_alloc _ _ _ (by simp)).trans (heap_alloc_new w (.cells #[.int .i64 5, .string s, .string t, .int .i64 a, .int .i64 b, .int .i64 c, .int .i64 n] 32)))); obtain ⟨x0, x1, x2, x3, x4, x5, x6⟩ := r2))
    go_ret
    exact mayPost (by simp [mayC, fitF, hm, hu, hv]) (HBB.out.trans (B2.out.mono HBB.out.size))
  go_enter Tryz.func65, Tryz.ntmps65
  go_wp2_with (first | (go_at_call 95; (with_reducible refine (refName _ _ HS.out).mono ?_); rintro e w1 ⟨rfl, rfl⟩; rw [hm]) | (go_at_call 95; (with_reducible refine (refName _ _ HT.out).mono ?_); rintro e w1 ⟨rfl, rfl⟩; rw [hu]) | (go_at_call 96; (refine (Vc.refMay_any _ _ _ _).mono ?_); rintro e w2 ⟨rfl, hb2⟩; rw [hv]; have B2 := Lib.hid hb2; clear hb2; have r2 := row7 ((B2.out.block w.heap.size (by simp; omega)).trans ((Below.heap_alloc _ _ _ (by simp)).trans (heap_alloc_new w (.cells #[.int .i64 5, .string s, .string t, .int .i64 a, .int .i64 b, .int .i64 c, .int .i64 n] 32)))); obtain ⟨x0, x1, x2, x3, x4, x5, x6⟩ := r2))
  go_ret
  exact mayPost (by simp [mayC, fitF, hm, hu, hv]) (HBB.out.trans (B2.out.mono HBB.out.size))
theorem refMay_6 (o : Int) (h : o = 6) (s t : ByteArray) (a b c n : Int) (w : World) (hs : s.size ≤ 281474976710656) (ht : t.size ≤ 281474976710656) (hm : Nm.may s.data.toList = true) : Calls Tryz.prog 65 #[.agg #[.int .i64 o, .string s, .string t, .int .i64 a, .int .i64 b, .int .i64 c, .int .i64 n]] w (MayPost o s t a b c n w) := by
  have q := neq23v
  have q2 := bld23
  have HS := Lib.hid hs
  have HT := Lib.hid ht
  have HBB := Lib.hid (((Below.refl w.heap.size w).alloc (Nat.le_refl _) (.cells #[.int .i64 o, .string s, .string t, .int .i64 a, .int .i64 b, .int .i64 c, .int .i64 n] 32)).alloc (by simp) (.cells #[.int .i64 0, .int .i64 0, .int .i64 0] 30))
  clear hs ht
  subst h
  cases hz : (t.size == 0)
  · have h1 : (t.toList == []) = false := toList0 hz
    go_enter Tryz.func65, Tryz.ntmps65
    go_wp2_with (first | (go_at_call 95; (with_reducible refine (refName _ _ HS.out).mono ?_); rintro e w1 ⟨rfl, rfl⟩; rw [hm]))
    go_ret
    exact mayPost (by simp [mayC, fitF, hm, hz]) (HBB.out)
  obtain rfl : t = ⟨#[]⟩ := size_zero (by simpa using hz)
  cases hv : eqV a b c 0 0 0
  · go_enter Tryz.func65, Tryz.ntmps65
    go_wp2_with (first | (go_at_call 95; (with_reducible refine (refName _ _ HS.out).mono ?_); rintro e w1 ⟨rfl, rfl⟩; rw [hm]))
    go_ret
    exact mayPost (by simp [mayC, fitF, hm, hz, hv]) (HBB.out)
  go_enter Tryz.func65, Tryz.ntmps65
  go_wp2_with (first | (go_at_call 95; (with_reducible refine (refName _ _ HS.out).mono ?_); rintro e w1 ⟨rfl, rfl⟩; rw [hm]))
  go_ret
  exact mayPost (by simp [mayC, fitF, hm, hz, hv]) (HBB.out)
theorem refMay_7 (o : Int) (h : o = 7) (s t : ByteArray) (a b c n : Int) (w : World) (hs : s.size ≤ 281474976710656) (ht : t.size ≤ 281474976710656) (hm : Nm.may s.data.toList = true) : Calls Tryz.prog 65 #[.agg #[.int .i64 o, .string s, .string t, .int .i64 a, .int .i64 b, .int .i64 c, .int .i64 n]] w (MayPost o s t a b c n w) := by
  have q := neq23v
  have q2 := bld23
  have HS := Lib.hid hs
  have HT := Lib.hid ht
  have HBB := Lib.hid (((Below.refl w.heap.size w).alloc (Nat.le_refl _) (.cells #[.int .i64 o, .string s, .string t, .int .i64 a, .int .i64 b, .int .i64 c, .int .i64 n] 32)).alloc (by simp) (.cells #[.int .i64 0, .int .i64 0, .int .i64 0] 30))
  clear hs ht
  subst h
  cases hu : Nm.may t.data.toList
  · go_enter Tryz.func65, Tryz.ntmps65
    go_wp2_with (first | (go_at_call 95; (with_reducible refine (refName _ _ HS.out).mono ?_); rintro e w1 ⟨rfl, rfl⟩; rw [hm]) | (go_at_call 95; (with_reducible refine (refName _ _ HT.out).mono ?_); rintro e w1 ⟨rfl, rfl⟩; rw [hu]))
    go_ret
    exact mayPost (by simp [mayC, fitF, hm, hu]) (HBB.out)
  cases hv : eqV a b c 0 0 0
  · go_enter Tryz.func65, Tryz.ntmps65
    go_wp2_with (first | (go_at_call 95; (with_reducible refine (refName _ _ HS.out).mono ?_); rintro e w1 ⟨rfl, rfl⟩; rw [hm]) | (go_at_call 95; (with_reducible refine (refName _ _ HT.out).mono ?_); rintro e w1 ⟨rfl, rfl⟩; rw [hu]))
    go_ret
    exact mayPost (by simp [mayC, fitF, hm, hu, hv]) (HBB.out)
  by_cases h1 : n = 1
  · subst h1
    go_enter Tryz.func65, Tryz.ntmps65
    go_wp2_with (first | (go_at_call 95; (with_reducible refine (refName _ _ HS.out).mono ?_); rintro e w1 ⟨rfl, rfl⟩; rw [hm]) | (go_at_call 95; (with_reducible refine (refName _ _ HT.out).mono ?_); rintro e w1 ⟨rfl, rfl⟩; rw [hu]))
    go_ret
    exact mayPost (by simp [mayC, fitF, hm, hu, hv]) (HBB.out)
  by_cases h2 : n = 2
  · subst h2
    go_enter Tryz.func65, Tryz.ntmps65
    go_wp2_with (first | (go_at_call 95; (with_reducible refine (refName _ _ HS.out).mono ?_); rintro e w1 ⟨rfl, rfl⟩; rw [hm]) | (go_at_call 95; (with_reducible refine (refName _ _ HT.out).mono ?_); rintro e w1 ⟨rfl, rfl⟩; rw [hu]))
    go_ret
    exact mayPost (by simp [mayC, fitF, hm, hu, hv]) (HBB.out)
  have g1 : (n == 1) = false := by simpa using h1
  have g2 : (n == 2) = false := by simpa using h2
  go_enter Tryz.func65, Tryz.ntmps65
  go_wp2_with (first | (go_at_call 95; (with_reducible refine (refName _ _ HS.out).mono ?_); rintro e w1 ⟨rfl, rfl⟩; rw [hm]) | (go_at_call 95; (with_reducible refine (refName _ _ HT.out).mono ?_); rintro e w1 ⟨rfl, rfl⟩; rw [hu]))
  go_ret
  exact mayPost (by simp [mayC, fitF, hm, hu, hv, g1, g2]) (HBB.out)
theorem refMay_8 (o : Int) (h : o = 8) (s t : ByteArray) (a b c n : Int) (w : World) (hs : s.size ≤ 281474976710656) (ht : t.size ≤ 281474976710656) (hm : Nm.may s.data.toList = true) : Calls Tryz.prog 65 #[.agg #[.int .i64 o, .string s, .string t, .int .i64 a, .int .i64 b, .int .i64 c, .int .i64 n]] w (MayPost o s t a b c n w) := by
  have q := neq23v
  have q2 := bld23
  have HS := Lib.hid hs
  have HT := Lib.hid ht
  have HBB := Lib.hid (((Below.refl w.heap.size w).alloc (Nat.le_refl _) (.cells #[.int .i64 o, .string s, .string t, .int .i64 a, .int .i64 b, .int .i64 c, .int .i64 n] 32)).alloc (by simp) (.cells #[.int .i64 0, .int .i64 0, .int .i64 0] 30))
  clear hs ht
  subst h
  cases hz : (t.size == 0)
  · have h1 : (t.toList == []) = false := toList0 hz
    go_enter Tryz.func65, Tryz.ntmps65
    go_wp2_with (first | (go_at_call 95; (with_reducible refine (refName _ _ HS.out).mono ?_); rintro e w1 ⟨rfl, rfl⟩; rw [hm]))
    go_ret
    exact mayPost (by simp [mayC, fitF, hm, hz]) (HBB.out)
  obtain rfl : t = ⟨#[]⟩ := size_zero (by simpa using hz)
  cases hv : eqV a b c 0 0 0
  · go_enter Tryz.func65, Tryz.ntmps65
    go_wp2_with (first | (go_at_call 95; (with_reducible refine (refName _ _ HS.out).mono ?_); rintro e w1 ⟨rfl, rfl⟩; rw [hm]))
    go_ret
    exact mayPost (by simp [mayC, fitF, hm, hz, hv]) (HBB.out)
  go_enter Tryz.func65, Tryz.ntmps65
  go_wp2_with (first | (go_at_call 95; (with_reducible refine (refName _ _ HS.out).mono ?_); rintro e w1 ⟨rfl, rfl⟩; rw [hm]))
  go_ret
  exact mayPost (by simp [mayC, fitF, hm, hz, hv]) (HBB.out)
theorem refMay_9 (o : Int) (h : o = 9) (s t : ByteArray) (a b c n : Int) (w : World) (hs : s.size ≤ 281474976710656) (ht : t.size ≤ 281474976710656) (hm : Nm.may s.data.toList = true) : Calls Tryz.prog 65 #[.agg #[.int .i64 o, .string s, .string t, .int .i64 a, .int .i64 b, .int .i64 c, .int .i64 n]] w (MayPost o s t a b c n w) := by
  have q := neq23v
  have q2 := bld23
  have HS := Lib.hid hs
  have HT := Lib.hid ht
  have HBB := Lib.hid (((Below.refl w.heap.size w).alloc (Nat.le_refl _) (.cells #[.int .i64 o, .string s, .string t, .int .i64 a, .int .i64 b, .int .i64 c, .int .i64 n] 32)).alloc (by simp) (.cells #[.int .i64 0, .int .i64 0, .int .i64 0] 30))
  clear hs ht
  subst h
  cases hz : (t.size == 0)
  · have h1 : (t.toList == []) = false := toList0 hz
    go_enter Tryz.func65, Tryz.ntmps65
    go_wp2_with (first | (go_at_call 95; (with_reducible refine (refName _ _ HS.out).mono ?_); rintro e w1 ⟨rfl, rfl⟩; rw [hm]))
    go_ret
    exact mayPost (by simp [mayC, fitF, hm, hz]) (HBB.out)
  obtain rfl : t = ⟨#[]⟩ := size_zero (by simpa using hz)
  cases hv : eqV a b c 0 0 0
  · go_enter Tryz.func65, Tryz.ntmps65
    go_wp2_with (first | (go_at_call 95; (with_reducible refine (refName _ _ HS.out).mono ?_); rintro e w1 ⟨rfl, rfl⟩; rw [hm]))
    go_ret
    exact mayPost (by simp [mayC, fitF, hm, hz, hv]) (HBB.out)
  go_enter Tryz.func65, Tryz.ntmps65
  go_wp2_with (first | (go_at_call 95; (with_reducible refine (refName _ _ HS.out).mono ?_); rintro e w1 ⟨rfl, rfl⟩; rw [hm]))
  go_ret
  exact mayPost (by simp [mayC, fitF, hm, hz, hv]) (HBB.out)
theorem refMay_10 (o : Int) (h : o = 10) (s t : ByteArray) (a b c n : Int) (w : World) (hs : s.size ≤ 281474976710656) (ht : t.size ≤ 281474976710656) (hm : Nm.may s.data.toList = true) : Calls Tryz.prog 65 #[.agg #[.int .i64 o, .string s, .string t, .int .i64 a, .int .i64 b, .int .i64 c, .int .i64 n]] w (MayPost o s t a b c n w) := by
  have q := neq23v
  have q2 := bld23
  have HS := Lib.hid hs
  have HT := Lib.hid ht
  have HBB := Lib.hid (((Below.refl w.heap.size w).alloc (Nat.le_refl _) (.cells #[.int .i64 o, .string s, .string t, .int .i64 a, .int .i64 b, .int .i64 c, .int .i64 n] 32)).alloc (by simp) (.cells #[.int .i64 0, .int .i64 0, .int .i64 0] 30))
  clear hs ht
  subst h
  cases hz : (t.size == 0)
  · have h1 : (t.toList == []) = false := toList0 hz
    go_enter Tryz.func65, Tryz.ntmps65
    go_wp2_with (first | (go_at_call 95; (with_reducible refine (refName _ _ HS.out).mono ?_); rintro e w1 ⟨rfl, rfl⟩; rw [hm]))
    go_ret
    exact mayPost (by simp [mayC, fitF, hm, hz]) (HBB.out)
  obtain rfl : t = ⟨#[]⟩ := size_zero (by simpa using hz)
  cases hv : eqV a b c 0 0 0
  · go_enter Tryz.func65, Tryz.ntmps65
    go_wp2_with (first | (go_at_call 95; (with_reducible refine (refName _ _ HS.out).mono ?_); rintro e w1 ⟨rfl, rfl⟩; rw [hm]))
    go_ret
    exact mayPost (by simp [mayC, fitF, hm, hz, hv]) (HBB.out)
  go_enter Tryz.func65, Tryz.ntmps65
  go_wp2_with (first | (go_at_call 95; (with_reducible refine (refName _ _ HS.out).mono ?_); rintro e w1 ⟨rfl, rfl⟩; rw [hm]))
  go_ret
  exact mayPost (by simp [mayC, fitF, hm, hz, hv]) (HBB.out)
theorem refMay_low (o : Int) (h : (o < 1) ∨ (10 < o)) (s t : ByteArray) (a b c n : Int) (w : World) (hs : s.size ≤ 281474976710656) (hm : Nm.may s.data.toList = true) : Calls Tryz.prog 65 #[.agg #[.int .i64 o, .string s, .string t, .int .i64 a, .int .i64 b, .int .i64 c, .int .i64 n]] w (MayPost o s t a b c n w) := by
  have HS := Lib.hid hs
  have hf : fitF o t a b c n = false := by
    unfold fitF
    rw [if_neg (by omega), if_neg (by omega), if_neg (by omega), if_neg (by omega), if_neg (by omega)]
  have HF := Lib.hid hf
  have HBA := Lib.hid ((Below.refl w.heap.size w).alloc (Nat.le_refl _) (.cells #[.int .i64 o, .string s, .string t, .int .i64 a, .int .i64 b, .int .i64 c, .int .i64 n] 32))
  clear hs hf
  by_cases h1 : o < 1
  · clear h
    go_enter Tryz.func65, Tryz.ntmps65
    go_wp2_with (go_at_call 95; (with_reducible refine (refName _ _ HS.out).mono ?_); rintro e w1 ⟨rfl, rfl⟩; rw [hm])
    go_ret
    exact mayPost (by simp [mayC, HF.out]) HBA.out
  · have h2 : 10 < o := by omega
    clear h
    go_enter Tryz.func65, Tryz.ntmps65
    go_wp2_with (go_at_call 95; (with_reducible refine (refName _ _ HS.out).mono ?_); rintro e w1 ⟨rfl, rfl⟩; rw [hm])
    go_ret
    exact mayPost (by simp [mayC, HF.out]) HBA.out
theorem refMay_none (o : Int) (s t : ByteArray) (a b c n : Int) (w : World) (hs : s.size ≤ 281474976710656) (hm : Nm.may s.data.toList = false) : Calls Tryz.prog 65 #[.agg #[.int .i64 o, .string s, .string t, .int .i64 a, .int .i64 b, .int .i64 c, .int .i64 n]] w (MayPost o s t a b c n w) := by
  have HS := Lib.hid hs
  have HBA := Lib.hid ((Below.refl w.heap.size w).alloc (Nat.le_refl _) (.cells #[.int .i64 o, .string s, .string t, .int .i64 a, .int .i64 b, .int .i64 c, .int .i64 n] 32))
  clear hs
  go_enter Tryz.func65, Tryz.ntmps65
  go_wp2_with (go_at_call 95; (with_reducible refine (refName _ _ HS.out).mono ?_); rintro e w1 ⟨rfl, rfl⟩; rw [hm])
  go_ret
  exact mayPost (by simp [mayC, hm]) HBA.out
theorem refMay_any (o : Int) (s t : ByteArray) (a b c n : Int) (w : World) (hs : s.size ≤ 281474976710656) (ht : t.size ≤ 281474976710656) : Calls Tryz.prog 65 #[.agg #[.int .i64 o, .string s, .string t, .int .i64 a, .int .i64 b, .int .i64 c, .int .i64 n]] w (MayPost o s t a b c n w) := by
  cases hm : Nm.may s.data.toList
  · exact refMay_none o s t a b c n w hs hm
  by_cases h1 : o = 1
  · exact refMay_1 o h1 s t a b c n w hs ht hm
  by_cases h2 : o = 2
  · exact refMay_2 o h2 s t a b c n w hs ht hm
  by_cases h3 : o = 3
  · exact refMay_3 o h3 s t a b c n w hs ht hm
  by_cases h4 : o = 4
  · exact refMay_4 o h4 s t a b c n w hs ht hm
  by_cases h5 : o = 5
  · exact refMay_5 o h5 s t a b c n w hs ht hm
  by_cases h6 : o = 6
  · exact refMay_6 o h6 s t a b c n w hs ht hm
  by_cases h7 : o = 7
  · exact refMay_7 o h7 s t a b c n w hs ht hm
  by_cases h8 : o = 8
  · exact refMay_8 o h8 s t a b c n w hs ht hm
  by_cases h9 : o = 9
  · exact refMay_9 o h9 s t a b c n w hs ht hm
  by_cases h10 : o = 10
  · exact refMay_10 o h10 s t a b c n w hs ht hm
  exact refMay_low o (by omega) s t a b c n w hs hm
end Go.Proofs.YtebacdegjmcnlaaGreat
