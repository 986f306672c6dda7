import Derived.Test.YtebacdegjmcnlaaGreatMh
namespace Go.Proofs.YtebacdegjmcnlaaGreat
open Go.RowKit Pl
set_option linter.unusedVariables false
set_option maxRecDepth 20000
theorem may_any (o : Int) (s t : ByteArray) (a b c n : Int) (w : World) (hs : s.size ≤ 281474976710656) (ht : t.size ≤ 281474976710656) : Calls Tryz.prog 28 #[.agg #[.int .i64 o, .string s, .string t, .int .i64 a, .int .i64 b, .int .i64 c, .int .i64 n]] w (MayPost o s t a b c n w) := by
  have HS := Lib.hid hs
  have HT := Lib.hid ht
  have HB := Lib.hid ((Below.refl w.heap.size w).alloc (Nat.le_refl _) (.cells #[.int .i64 o, .string s, .string t, .int .i64 a, .int .i64 b, .int .i64 c, .int .i64 n] 32))
  have HR := Lib.hid (heap_alloc_new w (.cells #[.int .i64 o, .string s, .string t, .int .i64 a, .int .i64 b, .int .i64 c, .int .i64 n] 32))
  clear hs ht
  cases hm : Nm.may s.data.toList
  · go_enter Tryz.func28, Tryz.ntmps28
    go_wp2_with (go_at_call 45; (with_reducible refine (Nm.may_any _ _ HS.out).mono ?_); rintro e w1 ⟨rfl, hb1⟩; rw [hm]; have B1 := Lib.hid hb1; clear hb1)
    go_ret
    exact mayPost (by simp [mayC, hm]) (HB.out.trans (B1.out.mono HB.out.size))
  · go_enter Tryz.func28, Tryz.ntmps28
    go_wp2_with (first
      | (go_at_call 45; (with_reducible refine (Nm.may_any _ _ HS.out).mono ?_); rintro e w1 ⟨rfl, hb1⟩; rw [hm]; have B1 := Lib.hid hb1; obtain ⟨x0, x1, x2, x3, x4, x5, x6⟩ := row7 ((hb1.block w.heap.size (by simp)).trans HR.out); clear hb1)
      | (go_at_call 46; (with_reducible refine (fieldsFit_any _ _ _ _ _ _ _ _ HT.out).mono ?_); rintro e w2 ⟨rfl, hb2⟩; have B2 := Lib.hid hb2; clear hb2))
    go_ret
    exact mayPost (by simp [mayC, hm]) (HB.out.trans ((B1.out.trans (B2.out.mono B1.out.size)).mono HB.out.size))
def asksC (o : Int) (s t : ByteArray) (a b c n : Int) : Bool := (o == 8 || (o == 9 || o == 10)) && mayC o s t a b c n
def AsksPost (o : Int) (s t : ByteArray) (a b c n : Int) (w : World) (e : Ending) (w' : World) : Prop := e = .returned (.bool (asksC o s t a b c n)) ∧ Below w.heap.size w w'
theorem asksPost {o : Int} {s t : ByteArray} {a b c n : Int} {w w' : World} {x : Bool} (h : x = asksC o s t a b c n) (hb : Below w.heap.size w w') : AsksPost o s t a b c n w (.returned (.bool x)) w' := ⟨by rw [h], hb⟩
/-- a reply may be packed -/
def mayR (e : Int) (s : ByteArray) : Bool := decide (0 ≤ e) && (decide (e ≤ 255) && decide (s.size ≤ 1000))
end Go.Proofs.YtebacdegjmcnlaaGreat
