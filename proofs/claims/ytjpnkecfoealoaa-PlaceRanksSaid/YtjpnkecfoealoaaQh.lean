import Derived.Test.YtjpnkecfoealoaaQg
import Derived.Deep.QuietTactic
namespace Go.Proofs.Ytjpnkecfoealoaa
open Go.RowKit
set_option linter.unusedVariables false
/-- A world of a class: a structure of its own. -/
structure Wd (C : World → Prop) where
  X : World
  ok : C X
/-- A region that draws its order and whose operations read, its callees leaving the class: one walk serves every order. -/
theorem wp_region_class {P : Program} (C : World → Prop) {id : Nat} {Q : Exit → Act → World → Prop} {a : Act} {w : World} {l : List Oper} (hm : P.follows .mixedOrders = true) (hB : Region.lexB .any l.toArray = true) (hC : C w.drew)
    (h : Nonempty (Wd C) → wpQuiet P l.toArray (fun X => ∃ Z : Wd C, X = Z.X) (fun a' => ∀ w', (∃ Z : Wd C, w' = Z.X) → Q .normal a' w') l a) : (Code.region id l.toArray true).wp P Q a w :=
  wp_region_quiet (C := fun X => ∃ Z : Wd C, X = Z.X) hm hB ⟨⟨w.drew, hC⟩, rfl⟩ (by simpa using h ⟨⟨w.drew, hC⟩⟩)
/-- A callee's contract in a world of the class. -/
theorem Calls.in_class {P : Program} {f : FuncId} {args : Array Value} {C : World → Prop} {v : Value} (Z : Wd C) (h : Calls P f args Z.X fun e w' => e = .returned v ∧ Below Z.X.heap.size Z.X w') (hC : ∀ X, C Z.X → Below Z.X.heap.size Z.X X → C X) :
    Calls P f args Z.X fun e w'' => e = .returned v ∧ ∃ Y : Wd C, w'' = Y.X :=
  h.mono fun e w'' ⟨h1, h2⟩ => ⟨h1, ⟨w'', hC w'' Z.ok h2⟩, rfl⟩
/-- An operation that a guard strikes. -/
theorem wpQuiet_struck {P : Program} {ops : Array Oper} {C : World → Prop} {Q : Act → Prop} {a : Act} {o : Oper} {rest : List Oper} (h : Region.wanted o (yielded ops a.tmps) = false) (k : wpQuiet P ops C Q rest (a.put o.dst undef)) : wpQuiet P ops C Q (o :: rest) a := by
  rw [wpQuiet, if_neg (by rw [h]; decide)]
  exact k
end Go.Proofs.Ytjpnkecfoealoaa
