import Derived.Test.YtebacdegjmcnlaaMl
namespace Go.Proofs.Ytebacdegjmcnlaa
open Go.RowKit Pl
set_option linter.unusedVariables false
set_option maxRecDepth 20000
def CP : List PanicEntry := [{ v := .iface 35 (.int .i64 4), recovered := false }]
/-- v, or the panic of a reader -/
def OrP (b : Bool) (v : Value) (w : World) (e : Ending) (w' : World) : Prop := (e = if b then .returned v else .panicked CP) ∧ Below w.heap.size w w'
theorem orYes {b : Bool} {v : Value} {w w' : World} (h : b = true) (hb : Below w.heap.size w w') : OrP b v w (.returned v) w' := ⟨by rw [h]; rfl, hb⟩
theorem orNo {b : Bool} {v : Value} {w w' : World} (h : b = false) (hb : Below w.heap.size w w') : OrP b v w (.panicked CP) w' := ⟨by rw [h]; rfl, hb⟩
theorem must_yes (w : World) : Calls Try.prog 87 #[.bool true] w fun e w' => e = .returned (.tuple #[]) ∧ w = w' := by
  go_enter Try.func87, Try.ntmps87
  go_wp2_with fail
  go_end0
  exact ⟨rfl, rfl⟩
theorem must_no (w : World) : Calls Try.prog 87 #[.bool false] w fun e w' => e = .panicked CP ∧ w = w' := by
  go_enter Try.func87, Try.ntmps87
  go_wp2_with fail
  exact ⟨rfl, rfl, rfl⟩
theorem number_yes (n : Int) (s : ByteArray) (A : Option Addr) (m c : Nat) (w : World) : Calls Try.prog 86 #[.agg #[.int .i64 1, .int .i64 n, .string s, .slice A m c]] w fun e w' => e = .returned (.int .i64 n) ∧ Below w.heap.size w w' := by
  go_enter Try.func86, Try.ntmps86
  go_wp2_with (go_at_call 87; (with_reducible refine (must_yes _).mono ?_); rintro e w1 ⟨rfl, rfl⟩)
  go_ret
  exact ⟨rfl, (Below.refl _ _).alloc (Nat.le_refl _) _⟩
theorem number_no (k n : Int) (hk : k ≠ 1) (s : ByteArray) (A : Option Addr) (m c : Nat) (w : World) : Calls Try.prog 86 #[.agg #[.int .i64 k, .int .i64 n, .string s, .slice A m c]] w fun e w' => e = .panicked CP ∧ Below w.heap.size w w' := by
  have g1 : (k == 1) = false := by simpa using hk
  go_enter Try.func86, Try.ntmps86
  go_wp2_with (go_at_call 87; (with_reducible refine (must_no _).mono ?_); rintro e w1 ⟨rfl, rfl⟩)
  exact ⟨rfl, rfl, (Below.refl _ _).alloc (Nat.le_refl _) _⟩
theorem int_yes (n : Int) (s : ByteArray) (A : Option Addr) (m c : Nat) (w : World) : Calls Try.prog 83 #[.agg #[.int .i64 1, .int .i64 n, .string s, .slice A m c]] w fun e w' => e = .returned (.int .i64 n) ∧ Below w.heap.size w w' := by
  have gn : (n == n) = true := by simp
  go_enter Try.func83, Try.ntmps83
  go_wp2_with (first
    | (go_at_call 87; (with_reducible refine (must_yes _).mono ?_); rintro e w1 ⟨rfl, rfl⟩)
    | (go_at_call 86; (with_reducible refine (number_yes _ _ _ _ _ _).mono ?_); rintro e w1 ⟨rfl, hb1⟩; have B1 := Lib.hid hb1; clear hb1))
  go_ret
  exact ⟨rfl, ((Below.refl _ _).alloc (Nat.le_refl _) _).trans (B1.out.mono (by simp))⟩
theorem int_no (k n : Int) (hk : k ≠ 1) (s : ByteArray) (A : Option Addr) (m c : Nat) (w : World) : Calls Try.prog 83 #[.agg #[.int .i64 k, .int .i64 n, .string s, .slice A m c]] w fun e w' => e = .panicked CP ∧ Below w.heap.size w w' := by
  go_enter Try.func83, Try.ntmps83
  go_wp2_with (go_at_call 86; (with_reducible refine (number_no _ _ hk _ _ _ _ _).mono ?_); rintro e w1 ⟨rfl, hb1⟩)
  exact ⟨rfl, rfl, ((Below.refl _ _).alloc (Nat.le_refl _) _).trans (hb1.mono (by simp))⟩
theorem textOf_yes (n : Int) (s : ByteArray) (A : Option Addr) (m c : Nat) (w : World) : Calls Try.prog 84 #[.agg #[.int .i64 2, .int .i64 n, .string s, .slice A m c]] w fun e w' => e = .returned (.string s) ∧ Below w.heap.size w w' := by
  go_enter Try.func84, Try.ntmps84
  go_wp2_with (go_at_call 87; (with_reducible refine (must_yes _).mono ?_); rintro e w1 ⟨rfl, rfl⟩)
  go_ret
  exact ⟨rfl, (Below.refl _ _).alloc (Nat.le_refl _) _⟩
theorem textOf_no (k n : Int) (hk : k ≠ 2) (s : ByteArray) (A : Option Addr) (m c : Nat) (w : World) : Calls Try.prog 84 #[.agg #[.int .i64 k, .int .i64 n, .string s, .slice A m c]] w fun e w' => e = .panicked CP ∧ Below w.heap.size w w' := by
  have g1 : (k == 2) = false := by simpa using hk
  go_enter Try.func84, Try.ntmps84
  go_wp2_with (go_at_call 87; (with_reducible refine (must_no _).mono ?_); rintro e w1 ⟨rfl, rfl⟩)
  exact ⟨rfl, rfl, (Below.refl _ _).alloc (Nat.le_refl _) _⟩
theorem els_yes (n : Int) (s : ByteArray) (A : Option Addr) (m c : Nat) (w : World) : Calls Try.prog 81 #[.agg #[.int .i64 3, .int .i64 n, .string s, .slice A m c], .int .i64 m] w fun e w' => e = .returned (.slice A m c) ∧ Below w.heap.size w w' := by
  go_enter Try.func81, Try.ntmps81
  go_wp2_with (go_at_call 87; (with_reducible refine (must_yes _).mono ?_); rintro e w1 ⟨rfl, rfl⟩)
  go_ret
  exact ⟨rfl, (Below.refl _ _).alloc (Nat.le_refl _) _⟩
theorem els_no (k n : Int) (q : Int) (s : ByteArray) (A : Option Addr) (m c : Nat) (hk : k ≠ 3 ∨ (m : Int) ≠ q) (w : World) : Calls Try.prog 81 #[.agg #[.int .i64 k, .int .i64 n, .string s, .slice A m c], .int .i64 q] w fun e w' => e = .panicked CP ∧ Below w.heap.size w w' := by
  by_cases h3 : k = 3
  · subst h3
    have hm : (m : Int) ≠ q := by simpa using hk
    have g2 : ((m : Int) == q) = false := by simpa using hm
    go_enter Try.func81, Try.ntmps81
    go_wp2_with (go_at_call 87; (with_reducible refine (must_no _).mono ?_); rintro e w1 ⟨rfl, rfl⟩)
    exact ⟨rfl, rfl, (Below.refl _ _).alloc (Nat.le_refl _) _⟩
  · have g1 : (k == 3) = false := by simpa using h3
    go_enter Try.func81, Try.ntmps81
    go_wp2_with (go_at_call 87; (with_reducible refine (must_no _).mono ?_); rintro e w1 ⟨rfl, rfl⟩)
    exact ⟨rfl, rfl, (Below.refl _ _).alloc (Nat.le_refl _) _⟩
end Go.Proofs.Ytebacdegjmcnlaa
