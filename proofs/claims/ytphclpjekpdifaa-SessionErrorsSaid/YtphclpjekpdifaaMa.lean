import Derived.Test.YtphclpjekpdifaaWe
import Derived.Test.YtphclpjekpdifaaNb
import Derived.WalkKit
import Derived.ProofKit
import Derived.WalkLawsBesides
import Derived.Outline
import Derived.Deep.QuietTactic
import Derived.BigQuiet
import Derived.Laws.BitsAllLaws
import Derived.Lib.Hide
import Derived.LoopTactic
import Derived.LoopN
import Derived.Laws.Small
import Derived.Laws.Pointers
import Derived.Laws.StructEq
import Derived.Laws.Tables
import Derived.Laws.Cover2
import Derived.Deep.RegionHeld3
import Derived.StillTailTactics
namespace Go.Proofs.Ytphclpjekpdifaa.Wi
open Go.RowKit Pl
set_option maxRecDepth 20000
set_option linter.unusedVariables false
set_option maxRecDepth 20000

/-- a reply's value -/
def rV (o : Int) (s : ByteArray) (a b c n : Int) : Value := .agg #[.int .i64 o, .string s, .int .i64 a, .int .i64 b, .int .i64 c, .int .i64 n]
def eqV (a b c x y z : Int) : Bool := a == x && (b == y && c == z)
theorem eqV_iff {a b c x y z : Int} : eqV a b c x y z = true ↔ a = x ∧ b = y ∧ c = z := by simp [eqV]
theorem eq23 (d : Nat) (a b c x y z : Int) (w : World) : (Op.equalIn (d + 2) 25 (.agg #[.int .i64 a, .int .i64 b, .int .i64 c]) (.agg #[.int .i64 x, .int .i64 y, .int .i64 z])).run Try.prog w = .ok (eqV a b c x y z) w := by
  have u3 := Try.underlying2
  have a3 := Try.isAgg2
  have z3 := Try.sizeOf2
  rw [Op.equalIn]
  simp only [Sem.run_bind, run_underlying Try.underlying25, Result.andThen_ok]
  simp only [Std.Legacy.Range.forIn_eq_forIn_range', Std.Legacy.Range.size, Nat.sub_zero, Nat.add_sub_cancel, Nat.div_one, List.range'_succ, List.range'_zero, List.forIn_cons, List.forIn_nil]
  unfold eqV
  go_simp
  by_cases h1 : a = x <;> by_cases h2 : b = y <;> by_cases h3 : c = z <;> simp [h1, h2, h3]
theorem beq_str (x y : ByteArray) : (x.toList == y.toList) = (x == y) := (beq_toListBytes x y).symm
theorem toList_iff (x y : ByteArray) : x.toList = y.toList ↔ x = y := by
  have h := beq_str x y
  have h2 : (x == y) = true ↔ x = y := by
    obtain ⟨⟨x⟩⟩ := x
    obtain ⟨⟨y⟩⟩ := y
    show ((⟨x⟩ : Array UInt8) == ⟨y⟩) = true ↔ _
    simp
  rw [← h2, ← h, beq_iff_eq]
def eqR (o : Int) (s : ByteArray) (a b c n : Int) (o' : Int) (s' : ByteArray) (a' b' c' n' : Int) : Bool := o == o' && (s == s' && (eqV a b c a' b' c' && n == n'))
theorem eqR_iff {o : Int} {s : ByteArray} {a b c n : Int} {o' : Int} {s' : ByteArray} {a' b' c' n' : Int} : eqR o s a b c n o' s' a' b' c' n' = true ↔ o = o' ∧ s = s' ∧ (a = a' ∧ b = b' ∧ c = c') ∧ n = n' := by
  have hs : ∀ x y : ByteArray, (x == y) = true ↔ x = y := fun x y => by
    obtain ⟨⟨x⟩⟩ := x
    obtain ⟨⟨y⟩⟩ := y
    show ((⟨x⟩ : Array UInt8) == ⟨y⟩) = true ↔ _
    simp
  simp [eqR, eqV, hs]
theorem eq34 (o : Int) (s : ByteArray) (a b c n : Int) (o' : Int) (s' : ByteArray) (a' b' c' n' : Int) (w : World) : (Op.equalIn 10000 27 (rV o s a b c n) (rV o' s' a' b' c' n')).run Try.prog w = .ok (eqR o s a b c n o' s' a' b' c' n') w := by
  have u2 := Try.underlying2
  have a2 := Try.isAgg2
  have z2 := Try.sizeOf2
  have u3 := Try.underlying23
  have a3 := Try.isAgg23
  have z3 := Try.sizeOf23
  have u9 := Try.underlying9
  have a9 := Try.isAgg9
  have z9 := Try.sizeOf9
  have a23 := Try.isAgg25
  have z23 := Try.sizeOf25
  have e23 := eq23 9997 a b c a' b' c' w
  have hu : Try.prog.underlying 27 = some (.struct (Try.prog.fieldsOf 27)) := by kernel_rfl
  rw [show (10000 : Nat) = 9999 + 1 from rfl, rV, rV, run_equalIn_struct w 9999 27 _ _ hu (by kernel_rfl)]
  simp only [Program.fieldsOf, Try.underlying27]
  unfold eqR
  generalize eqV a b c a' b' c' = E at *
  go_simp
  have hb := beq_str s s'
  rw [← hb]
  clear hb e23 hu
  generalize s.toList = S at *
  by_cases h1 : o = o' <;> by_cases h2 : S = s'.toList <;> cases E <;> by_cases h4 : n = n' <;> simp [h1, h2, h4]
end Go.Proofs.Ytphclpjekpdifaa.Wi
