import Derived.Test.YtjpnkecfoealoaaQh
import Derived.Maps.Own
import Derived.Maps.OwnOps
namespace Go.Proofs.Ytjpnkecfoealoaa
set_option maxRecDepth 20000
open Go.RowKit
open Go.Maps (Keyed)
set_option linter.unusedVariables false
/-! ### a map of indexes that tells which were seen -/
theorem law3 : Keyed Try.prog 3 := Go.Maps.int_keyed Try.underlying3
noncomputable abbrev RB : Value → Option (DataW Value × List MemPlace) := plainElem Try.prog 4
theorem zero4 (w : World) : (zeroValue 4).run Try.prog w = .ok (.bool false) w := by kernel_rfl
theorem key3 {x : Nat} (hx : x ≤ 1000000) : keyOf Try.prog 3 (.int .i64 (x : Int)) = some (.int .i64 (x : Int)) := by
  have hw : (Lit.int .i64 (x : Int)).wf = true := by
    simp only [Lit.wf, Bool.and_eq_true, decide_eq_true_eq]
    have e1 : IntKind.i64.min = -9223372036854775808 := by decide
    have e2 : IntKind.i64.max = 9223372036854775807 := by decide
    rw [e1, e2]
    omega
  simp [keyOf, mapKey, Try.underlying3, hw]
/-- the map says of each index below a bound whether it is in S -/
def MapS (w : World) (b n : Nat) (S : List Nat) : Prop := ∃ D, w.ownsMap Try.prog 3 RB b n D ∧ ∀ x : Nat, x ≤ 1000000 → D.atKey (.int .i64 (x : Int)) (.lit (.bool false)) = .lit (.bool (decide (x ∈ S)))
theorem MapS.made (w : World) : MapS (w.alloc (.map #[] 0)) w.heap.size 0 [] := ⟨.map [], World.ownsMap_made w Try.prog 3 RB, fun x _ => rfl⟩
theorem MapS.keep {w w' : World} {b n : Nat} {S : List Nat} (h : MapS w b n S) (hk : w'.heap[b]? = w.heap[b]?) : MapS w' b n S := by
  obtain ⟨D, ⟨es, clock, h1, h2⟩, h3⟩ := h
  exact ⟨D, ⟨es, clock, hk.trans h1, h2⟩, h3⟩
theorem MapS.lt {w : World} {b n : Nat} {S : List Nat} (h : MapS w b n S) : b < w.heap.size := by
  obtain ⟨D, h1, h2⟩ := h
  exact World.ownsMap.lt h1
theorem MapS.look {w : World} {b n : Nat} {S : List Nat} (h : MapS w b n S) {x : Nat} (hx : x ≤ 1000000) : (Instr.lookup 44 (.map (some b)) (.int .i64 (x : Int)) false).run Try.prog w = .ok (.bool (decide (x ∈ S))) w := by
  obtain ⟨D, h1, h2⟩ := h
  obtain ⟨v, ps, q1, q2⟩ := World.ownsMap.lookup (t := 44) (e := 4) h1 law3 Try.underlying44 (zero4 w) (plainElem_bool Try.underlying4 false) (key3 hx)
  rw [h2 x hx] at q2
  rw [q1]
  unfold RB plainElem at q2
  rw [Try.underlying4] at q2
  cases v <;> simp at q2
  rw [q2.1]
theorem MapS.put {w : World} {b n : Nat} {S : List Nat} (h : MapS w b n S) (hn : n < 1000000) {x : Nat} (hx : x ≤ 1000000) :
    ∃ w', (Instr.mapUpdate 44 (.map (some b)) (.int .i64 (x : Int)) (.bool true)).run Try.prog w = .ok () w' ∧ MapS w' b (n + 1) (x :: S) ∧ w.grownBy w' (some b) := by
  obtain ⟨D, h1, h2⟩ := h
  obtain ⟨w', u1, u2, u3⟩ := World.ownsMap.update (t := 44) (e := 4) h1 law3 Try.underlying44 (by simp only [maxLen]; omega) (key3 hx) (plainElem_bool Try.underlying4 true)
  refine ⟨w', u1, ⟨_, u2, fun y hy => ?_⟩, u3⟩
  by_cases e : y = x
  · subst e
    rw [Go.Maps.atKey_put_same h1.isMap (law3.key (key3 hx))]
    simp
  · rw [Go.Maps.atKey_put_other (by simp only [ne_eq, Lit.int.injEq]; omega), h2 y hy]
    simp [e]
end Go.Proofs.Ytjpnkecfoealoaa
