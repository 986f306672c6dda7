/-
  No cell of these rows narrows 'for every input' (looked for: loops, veiled, ifaces, maps, wideKeys, modest, calm, conditions, laid).
  DERIVED. THE GIVEN ROWS OF THIS SEAT. 6 by the template 'for every input the law returns true; each argument reads behind the call as it read before'; 0 by the template 'total and deterministic' (their statements: YtlimjfnolidbmaaTotals.lean).
  GIVEN WITH THE SEED: the statements are not yours to turn. If you find one false, say at which input.
  Laid BY PROGRAM, IN A SANDBOX (cutbox-rows.mjs): the forced cells as the released guide's own fill.sh prints them over the translation 14cd2d3911e73fda… (all of the seat's roots in one cut). By AI agents, Wed Nov 11 2026. No macro, syntax, notation, axiom, sorry.
-/
import Derived.Test.YtlimjfnolidbmaaChecked
import GoSem.Claim
import GoSem.ClaimJoined
import GoSem.ClaimMapViews
import Derived.JoinedTies
import Derived.KernelRfl
namespace Go.Proofs.Ytlimjfnolidbmaa
/- THE CELL 'sum', in the pinned program and in every row, IS THE sha256 OF THE DUMP (.gsa) THAT YtlimjfnolidbmaaProg.lean LOADS. Nothing in Lean hashes anything: it is a label: what it is worth is what the hold of that sum in a sandbox is worth. -/
noncomputable def Try.pinned : Pinned := { name := "ytlimjfnolidbmaa", sum := "14cd2d3911e73fda9601e268cbc9f1d371cfb5560f5cd530f8d087644aa26c2e", checked := Try.checked }
namespace Rows
def none {H : Type} : Left H := { results := [], args := [] }

/-- 'provostlaw14.RlogDoes': WHATEVER THE INPUT: true; the input reads as it did. -/
def rlogDoesSpec : ChangeSpec := { name := "rlogDoes", fn := fun _ => fun
  | [d1, d2, d3, d4] => { results := [.lit (.bool true)], args := [d1, d2, d3, d4] }
  | _ => none }
def rlogDoesRow : OpenClaim := { program := "ytlimjfnolidbmaa", sum := "14cd2d3911e73fda9601e268cbc9f1d371cfb5560f5cd530f8d087644aa26c2e", func := "provost/provostlaw14.RlogDoes", spec := "rlogDoes", apart := false }
def RlogDoesSaid : Prop := rlogDoesRow.holds Try.pinned (OpenSpec.ofChange rlogDoesSpec)

/-- ITS FALSE NEIGHBOUR: 'it returns false'. Refute it at one input. -/
def rlogDoesWrong : ChangeSpec := { name := "rlogDoes", fn := fun _ => fun
  | [d1, d2, d3, d4] => { results := [.lit (.bool false)], args := [d1, d2, d3, d4] }
  | _ => none }
def RlogDoesWrongFalsely : Prop := rlogDoesRow.holds Try.pinned (OpenSpec.ofChange rlogDoesWrong)

/-- 'provostlaw14.RlogMatch': WHATEVER THE INPUT: true; the input reads as it did. -/
def rlogMatchSpec : ChangeSpec := { name := "rlogMatch", fn := fun _ => fun
  | [d1, d2, d3, d4] => { results := [.lit (.bool true)], args := [d1, d2, d3, d4] }
  | _ => none }
def rlogMatchRow : OpenClaim := { program := "ytlimjfnolidbmaa", sum := "14cd2d3911e73fda9601e268cbc9f1d371cfb5560f5cd530f8d087644aa26c2e", func := "provost/provostlaw14.RlogMatch", spec := "rlogMatch", apart := false }
def RlogMatchSaid : Prop := rlogMatchRow.holds Try.pinned (OpenSpec.ofChange rlogMatchSpec)

/-- ITS FALSE NEIGHBOUR: 'it returns false'. Refute it at one input. -/
def rlogMatchWrong : ChangeSpec := { name := "rlogMatch", fn := fun _ => fun
  | [d1, d2, d3, d4] => { results := [.lit (.bool false)], args := [d1, d2, d3, d4] }
  | _ => none }
def RlogMatchWrongFalsely : Prop := rlogMatchRow.holds Try.pinned (OpenSpec.ofChange rlogMatchWrong)

/-- 'provostlaw14.RlogCuts': WHATEVER THE INPUT: true; the input reads as it did. -/
def rlogCutsSpec : ChangeSpec := { name := "rlogCuts", fn := fun _ => fun
  | [d1, d2, d3, d4, d5] => { results := [.lit (.bool true)], args := [d1, d2, d3, d4, d5] }
  | _ => none }
def rlogCutsRow : OpenClaim := { program := "ytlimjfnolidbmaa", sum := "14cd2d3911e73fda9601e268cbc9f1d371cfb5560f5cd530f8d087644aa26c2e", func := "provost/provostlaw14.RlogCuts", spec := "rlogCuts", apart := false }
def RlogCutsSaid : Prop := rlogCutsRow.holds Try.pinned (OpenSpec.ofChange rlogCutsSpec)

/-- ITS FALSE NEIGHBOUR: 'it returns false'. Refute it at one input. -/
def rlogCutsWrong : ChangeSpec := { name := "rlogCuts", fn := fun _ => fun
  | [d1, d2, d3, d4, d5] => { results := [.lit (.bool false)], args := [d1, d2, d3, d4, d5] }
  | _ => none }
def RlogCutsWrongFalsely : Prop := rlogCutsRow.holds Try.pinned (OpenSpec.ofChange rlogCutsWrong)

/-- 'provostlaw14.RlogAgain': WHATEVER THE INPUT: true; the input reads as it did. -/
def rlogAgainSpec : ChangeSpec := { name := "rlogAgain", fn := fun _ => fun
  | [d1, d2, d3, d4] => { results := [.lit (.bool true)], args := [d1, d2, d3, d4] }
  | _ => none }
def rlogAgainRow : OpenClaim := { program := "ytlimjfnolidbmaa", sum := "14cd2d3911e73fda9601e268cbc9f1d371cfb5560f5cd530f8d087644aa26c2e", func := "provost/provostlaw14.RlogAgain", spec := "rlogAgain", apart := false }
def RlogAgainSaid : Prop := rlogAgainRow.holds Try.pinned (OpenSpec.ofChange rlogAgainSpec)

/-- ITS FALSE NEIGHBOUR: 'it returns false'. Refute it at one input. -/
def rlogAgainWrong : ChangeSpec := { name := "rlogAgain", fn := fun _ => fun
  | [d1, d2, d3, d4] => { results := [.lit (.bool false)], args := [d1, d2, d3, d4] }
  | _ => none }
def RlogAgainWrongFalsely : Prop := rlogAgainRow.holds Try.pinned (OpenSpec.ofChange rlogAgainWrong)

/-- 'provostlaw14.RlogNewer': WHATEVER THE INPUT: true; the input reads as it did. -/
def rlogNewerSpec : ChangeSpec := { name := "rlogNewer", fn := fun _ => fun
  | [d1, d2, d3] => { results := [.lit (.bool true)], args := [d1, d2, d3] }
  | _ => none }
def rlogNewerRow : OpenClaim := { program := "ytlimjfnolidbmaa", sum := "14cd2d3911e73fda9601e268cbc9f1d371cfb5560f5cd530f8d087644aa26c2e", func := "provost/provostlaw14.RlogNewer", spec := "rlogNewer", unfollowed := true, recurses := true, apart := false }
def RlogNewerSaid : Prop := rlogNewerRow.holds Try.pinned (OpenSpec.ofChange rlogNewerSpec)

/-- ITS FALSE NEIGHBOUR: 'it returns false'. Refute it at one input. -/
def rlogNewerWrong : ChangeSpec := { name := "rlogNewer", fn := fun _ => fun
  | [d1, d2, d3] => { results := [.lit (.bool false)], args := [d1, d2, d3] }
  | _ => none }
def RlogNewerWrongFalsely : Prop := rlogNewerRow.holds Try.pinned (OpenSpec.ofChange rlogNewerWrong)

/-- 'provostlaw14.RlogParts': WHATEVER THE INPUT: true; the input reads as it did. -/
def rlogPartsSpec : ChangeSpec := { name := "rlogParts", fn := fun _ => fun
  | [d1, d2, d3, d4, d5, d6] => { results := [.lit (.bool true)], args := [d1, d2, d3, d4, d5, d6] }
  | _ => none }
def rlogPartsRow : OpenClaim := { program := "ytlimjfnolidbmaa", sum := "14cd2d3911e73fda9601e268cbc9f1d371cfb5560f5cd530f8d087644aa26c2e", func := "provost/provostlaw14.RlogParts", spec := "rlogParts", apart := false }
def RlogPartsSaid : Prop := rlogPartsRow.holds Try.pinned (OpenSpec.ofChange rlogPartsSpec)

/-- ITS FALSE NEIGHBOUR: 'it returns false'. Refute it at one input. -/
def rlogPartsWrong : ChangeSpec := { name := "rlogParts", fn := fun _ => fun
  | [d1, d2, d3, d4, d5, d6] => { results := [.lit (.bool false)], args := [d1, d2, d3, d4, d5, d6] }
  | _ => none }
def RlogPartsWrongFalsely : Prop := rlogPartsRow.holds Try.pinned (OpenSpec.ofChange rlogPartsWrong)

/- THE SECOND FORM. 'bulk': how many values and letters a reading holds, each counted each time it is reached (what is shared counts as often as it is met; a slice's spare places count too). A statement '..UptoSaid' is the law's where the arguments, and the package variables that the reading takes, are together of bulk at most 1048576: NARROWER than '..Said'. Prove '..Said' where nothing that the law and all that it calls make is longer than what came in: it says more and counts as full. Else prove '..UptoSaid'. A law counts once. -/
mutual
def uptoBulk {H : Type} : DataW H → Nat
  | .lit (.string bytes) => bytes.length + 1
  | .lit _ => 1
  | .nil => 1
  | .ptr d => uptoBulk d + 1
  | .slice elems spare => uptoBulkAll elems + uptoBulkAll spare + 1
  | .agg parts => uptoBulkAll parts + 1
  | .iface _ d => uptoBulk d + 1
  | .map entries => uptoBulkEntries entries + 1
  | .held _ => 1
def uptoBulkAll {H : Type} : List (DataW H) → Nat
  | [] => 0
  | d :: r => uptoBulk d + uptoBulkAll r
def uptoBulkEntries {H : Type} : List (Lit × DataW H) → Nat
  | [] => 0
  | x :: r => uptoBulkEntry x + uptoBulkEntries r
def uptoBulkEntry {H : Type} : Lit × DataW H → Nat
  | (.string bytes, d) => bytes.length + uptoBulk d + 1
  | (_, d) => uptoBulk d + 1
 end
def uptoSmall : (H : Type) → List (DataW H) → Bool := fun _ ds => decide (uptoBulkAll ds ≤ 1048576)
def OpenSpec.upto (s : _root_.Go.ChangeSpec) : _root_.Go.OpenSpec := { _root_.Go.OpenSpec.ofChange s with cond := some uptoSmall }

/-- 'provostlaw14.RlogDoes', WHERE WHAT IT READS IS OF BULK AT MOST 1048576: true; the input reads as it did. -/
def rlogDoesUptoRow : OpenClaim := { program := "ytlimjfnolidbmaa", sum := "14cd2d3911e73fda9601e268cbc9f1d371cfb5560f5cd530f8d087644aa26c2e", func := "provost/provostlaw14.RlogDoes", spec := "rlogDoes", apart := false, narrowed := true }
def RlogDoesUptoSaid : Prop := rlogDoesUptoRow.holds Try.pinned (OpenSpec.upto rlogDoesSpec)

/-- 'provostlaw14.RlogMatch', WHERE WHAT IT READS IS OF BULK AT MOST 1048576: true; the input reads as it did. -/
def rlogMatchUptoRow : OpenClaim := { program := "ytlimjfnolidbmaa", sum := "14cd2d3911e73fda9601e268cbc9f1d371cfb5560f5cd530f8d087644aa26c2e", func := "provost/provostlaw14.RlogMatch", spec := "rlogMatch", apart := false, narrowed := true }
def RlogMatchUptoSaid : Prop := rlogMatchUptoRow.holds Try.pinned (OpenSpec.upto rlogMatchSpec)

/-- 'provostlaw14.RlogCuts', WHERE WHAT IT READS IS OF BULK AT MOST 1048576: true; the input reads as it did. -/
def rlogCutsUptoRow : OpenClaim := { program := "ytlimjfnolidbmaa", sum := "14cd2d3911e73fda9601e268cbc9f1d371cfb5560f5cd530f8d087644aa26c2e", func := "provost/provostlaw14.RlogCuts", spec := "rlogCuts", apart := false, narrowed := true }
def RlogCutsUptoSaid : Prop := rlogCutsUptoRow.holds Try.pinned (OpenSpec.upto rlogCutsSpec)

/-- 'provostlaw14.RlogAgain', WHERE WHAT IT READS IS OF BULK AT MOST 1048576: true; the input reads as it did. -/
def rlogAgainUptoRow : OpenClaim := { program := "ytlimjfnolidbmaa", sum := "14cd2d3911e73fda9601e268cbc9f1d371cfb5560f5cd530f8d087644aa26c2e", func := "provost/provostlaw14.RlogAgain", spec := "rlogAgain", apart := false, narrowed := true }
def RlogAgainUptoSaid : Prop := rlogAgainUptoRow.holds Try.pinned (OpenSpec.upto rlogAgainSpec)

/-- 'provostlaw14.RlogNewer', WHERE WHAT IT READS IS OF BULK AT MOST 1048576: true; the input reads as it did. -/
def rlogNewerUptoRow : OpenClaim := { program := "ytlimjfnolidbmaa", sum := "14cd2d3911e73fda9601e268cbc9f1d371cfb5560f5cd530f8d087644aa26c2e", func := "provost/provostlaw14.RlogNewer", spec := "rlogNewer", unfollowed := true, recurses := true, apart := false, narrowed := true }
def RlogNewerUptoSaid : Prop := rlogNewerUptoRow.holds Try.pinned (OpenSpec.upto rlogNewerSpec)

/-- 'provostlaw14.RlogParts', WHERE WHAT IT READS IS OF BULK AT MOST 1048576: true; the input reads as it did. -/
def rlogPartsUptoRow : OpenClaim := { program := "ytlimjfnolidbmaa", sum := "14cd2d3911e73fda9601e268cbc9f1d371cfb5560f5cd530f8d087644aa26c2e", func := "provost/provostlaw14.RlogParts", spec := "rlogParts", apart := false, narrowed := true }
def RlogPartsUptoSaid : Prop := rlogPartsUptoRow.holds Try.pinned (OpenSpec.upto rlogPartsSpec)

end Rows
end Go.Proofs.Ytlimjfnolidbmaa
