import Derived.Test.YtebacdegjmcnlaaGreatWe
import Derived.Test.YtebacdegjmcnlaaGreatNb
import Derived.Test.YtebacdegjmcnlaaGreatWh
namespace Go.Proofs.YtebacdegjmcnlaaGreat
open Go.RowKit Pl
set_option linter.unusedVariables false
set_option maxRecDepth 20000
/-- a command's value: its number, name, of, three amounts, number -/
def cV (o : Int) (s t : ByteArray) (a b c n : Int) : Value := .agg #[.int .i64 o, .string s, .string t, .int .i64 a, .int .i64 b, .int .i64 c, .int .i64 n]
/-- a reply's value -/
def rV (o : Int) (s : ByteArray) (a b c n : Int) : Value := .agg #[.int .i64 o, .string s, .int .i64 a, .int .i64 b, .int .i64 c, .int .i64 n]
def eqV (a b c x y z : Int) : Bool := a == x && (b == y && c == z)
theorem eqV_iff {a b c x y z : Int} : eqV a b c x y z = true ↔ a = x ∧ b = y ∧ c = z := by simp [eqV]
theorem eq23 (d : Nat) (a b c x y z : Int) (w : World) : (Op.equalIn (d + 2) 30 (.agg #[.int .i64 a, .int .i64 b, .int .i64 c]) (.agg #[.int .i64 x, .int .i64 y, .int .i64 z])).run Tryz.prog w = .ok (eqV a b c x y z) w := by
  have u3 := Tryz.underlying2
  have a3 := Tryz.isAgg2
  have z3 := Tryz.sizeOf2
  rw [Op.equalIn]
  simp only [Sem.run_bind, run_underlying Tryz.underlying30, Result.andThen_ok]
  simp only [Std.Legacy.Range.forIn_eq_forIn_range', Std.Legacy.Range.size, Nat.sub_zero, Nat.add_sub_cancel, Nat.div_one, List.range'_succ, List.range'_zero, List.forIn_cons, List.forIn_nil]
  unfold eqV
  go_simp
  by_cases h1 : a = x <;> by_cases h2 : b = y <;> by_cases h3 : c = z <;> simp [h1, h2, h3]
def eqC (o : Int) (s t : ByteArray) (a b c n : Int) (o' : Int) (s' t' : ByteArray) (a' b' c' n' : Int) : Bool := o == o' && (s == s' && (t == t' && (eqV a b c a' b' c' && n == n')))
theorem eqC_iff {o : Int} {s t : ByteArray} {a b c n : Int} {o' : Int} {s' t' : ByteArray} {a' b' c' n' : Int} : eqC o s t a b c n o' s' t' a' b' c' n' = true ↔ o = o' ∧ s = s' ∧ t = t' ∧ (a = a' ∧ b = b' ∧ c = c') ∧ n = n' := by
  have hs : ∀ x y : ByteArray, (x == y) = true ↔ x = y := fun x y => by
    obtain ⟨⟨x⟩⟩ := x
    obtain ⟨⟨y⟩⟩ := y
    show ((⟨x⟩ : Array UInt8) == ⟨y⟩) = true ↔ _
    simp
  simp [eqC, eqV, hs]
theorem beq_str (x y : ByteArray) : (x.toList == y.toList) = (x == y) := (beq_toListBytes x y).symm
theorem toList_iff (x y : ByteArray) : x.toList = y.toList ↔ x = y := by
  have h := beq_str x y
  have h2 : (x == y) = true ↔ x = y := by
    obtain ⟨⟨x⟩⟩ := x
    obtain ⟨⟨y⟩⟩ := y
    show ((⟨x⟩ : Array UInt8) == ⟨y⟩) = true ↔ _
    simp
  rw [← h2, ← h, beq_iff_eq]
theorem eq25 (o : Int) (s t : ByteArray) (a b c n : Int) (o' : Int) (s' t' : ByteArray) (a' b' c' n' : Int) (w : World) : (Op.equalIn 10000 32 (cV o s t a b c n) (cV o' s' t' a' b' c' n')).run Tryz.prog w = .ok (eqC o s t a b c n o' s' t' a' b' c' n') w := by
  have u2 := Tryz.underlying2
  have a2 := Tryz.isAgg2
  have z2 := Tryz.sizeOf2
  have u3 := Tryz.underlying3
  have a3 := Tryz.isAgg3
  have z3 := Tryz.sizeOf3
  have u9 := Tryz.underlying9
  have a9 := Tryz.isAgg9
  have z9 := Tryz.sizeOf9
  have a23 := Tryz.isAgg30
  have z23 := Tryz.sizeOf30
  have e23 := eq23 9997 a b c a' b' c' w
  have hu : Tryz.prog.underlying 32 = some (.struct (Tryz.prog.fieldsOf 32)) := by kernel_rfl
  rw [show (10000 : Nat) = 9999 + 1 from rfl, cV, cV, run_equalIn_struct w 9999 32 _ _ hu (by kernel_rfl)]
  simp only [Program.fieldsOf, Tryz.underlying32]
  unfold eqC
  generalize eqV a b c a' b' c' = E at *
  go_simp
  have hb := beq_str s s'
  have hc := beq_str t t'
  rw [← hb, ← hc]
  clear hb hc e23 hu
  generalize s.toList = S at *
  generalize t.toList = T at *
  by_cases h1 : o = o' <;> by_cases h2 : S = s'.toList <;> by_cases h3 : T = t'.toList <;> cases E <;> by_cases h4 : n = n' <;> simp [h1, h2, h3, h4]
def eqR (o : Int) (s : ByteArray) (a b c n : Int) (o' : Int) (s' : ByteArray) (a' b' c' n' : Int) : Bool := o == o' && (s == s' && (eqV a b c a' b' c' && n == n'))
theorem eqR_iff {o : Int} {s : ByteArray} {a b c n : Int} {o' : Int} {s' : ByteArray} {a' b' c' n' : Int} : eqR o s a b c n o' s' a' b' c' n' = true ↔ o = o' ∧ s = s' ∧ (a = a' ∧ b = b' ∧ c = c') ∧ n = n' := by
  have hs : ∀ x y : ByteArray, (x == y) = true ↔ x = y := fun x y => by
    obtain ⟨⟨x⟩⟩ := x
    obtain ⟨⟨y⟩⟩ := y
    show ((⟨x⟩ : Array UInt8) == ⟨y⟩) = true ↔ _
    simp
  simp [eqR, eqV, hs]
end Go.Proofs.YtebacdegjmcnlaaGreat
