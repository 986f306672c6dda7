/-
  No cell of these rows narrows 'for every input' (looked for: loops, veiled, ifaces, maps, wideKeys, modest, calm, conditions, laid).
  DERIVED. THE GIVEN ROWS OF THIS SEAT. 9 by the template 'for every input the law returns true; each argument reads behind the call as it read before'; 0 by the template 'total and deterministic' (their statements: YtnlolpiefidckaaGreatTotals.lean).
  GIVEN WITH THE SEED: the statements are not yours to turn. If you find one false, say at which input.
  Laid BY PROGRAM, IN A SANDBOX (cutbox-rows.mjs): the forced cells as the released guide's own fill.sh prints them over the translation 48572093d1711417… (all of the seat's roots in one cut). By AI agents, Wed Nov 11 2026. No macro, syntax, notation, axiom, sorry.
-/
import Derived.Test.YtnlolpiefidckaaGreatChecked
import GoSem.Claim
import GoSem.ClaimJoined
import GoSem.ClaimMapViews
import Derived.JoinedTies
import Derived.KernelRfl
namespace Go.Proofs.YtnlolpiefidckaaGreat
/- THE CELL 'sum', in the pinned program and in every row, IS THE sha256 OF THE DUMP (.gsa) THAT YtnlolpiefidckaaGreatProg.lean LOADS. Nothing in Lean hashes anything: it is a label: what it is worth is what the hold of that sum in a sandbox is worth. -/
noncomputable def Tryz.pinned : Pinned := { name := "ytnlolpiefidckaagreat", sum := "48572093d17114177e23bbb2c224ba164669e774efb3c13c9a75c4182a7e5455", checked := Tryz.checked }
namespace Rows
def none {H : Type} : Left H := { results := [], args := [] }

/-- 'provostlaw11.SchedDoes': WHATEVER THE INPUT: true; the input reads as it did. -/
def schedDoesSpec : ChangeSpec := { name := "schedDoes", fn := fun _ => fun
  | [d] => { results := [.lit (.bool true)], args := [d] }
  | _ => none }
def schedDoesRow : OpenClaim := { program := "ytnlolpiefidckaagreat", sum := "48572093d17114177e23bbb2c224ba164669e774efb3c13c9a75c4182a7e5455", func := "provost/provostlaw11.SchedDoes", spec := "schedDoes", inPlace := ["internal/abi.NoEscape", "math/bits.Add64", "math/bits.Sub64"], unfollowed := true, recurses := true, named := ["math/bits.divideError", "math/bits.overflowError"], apart := false }
def SchedDoesSaid : Prop := schedDoesRow.holds Tryz.pinned (OpenSpec.ofChange schedDoesSpec)

/-- ITS FALSE NEIGHBOUR: 'it returns false'. Refute it at one input. -/
def schedDoesWrong : ChangeSpec := { name := "schedDoes", fn := fun _ => fun
  | [d] => { results := [.lit (.bool false)], args := [d] }
  | _ => none }
def SchedDoesWrongFalsely : Prop := schedDoesRow.holds Tryz.pinned (OpenSpec.ofChange schedDoesWrong)

/-- 'provostlaw11.SchedLoads': WHATEVER THE INPUT: true; the input reads as it did. -/
def schedLoadsSpec : ChangeSpec := { name := "schedLoads", fn := fun _ => fun
  | [d] => { results := [.lit (.bool true)], args := [d] }
  | _ => none }
def schedLoadsRow : OpenClaim := { program := "ytnlolpiefidckaagreat", sum := "48572093d17114177e23bbb2c224ba164669e774efb3c13c9a75c4182a7e5455", func := "provost/provostlaw11.SchedLoads", spec := "schedLoads", inPlace := ["internal/abi.NoEscape", "math/bits.Add64", "math/bits.Sub64"], unfollowed := true, recurses := true, named := ["math/bits.divideError", "math/bits.overflowError"], apart := false }
def SchedLoadsSaid : Prop := schedLoadsRow.holds Tryz.pinned (OpenSpec.ofChange schedLoadsSpec)

/-- ITS FALSE NEIGHBOUR: 'it returns false'. Refute it at one input. -/
def schedLoadsWrong : ChangeSpec := { name := "schedLoads", fn := fun _ => fun
  | [d] => { results := [.lit (.bool false)], args := [d] }
  | _ => none }
def SchedLoadsWrongFalsely : Prop := schedLoadsRow.holds Tryz.pinned (OpenSpec.ofChange schedLoadsWrong)

/-- 'provostlaw11.SchedRoom': WHATEVER THE INPUT: true; the input reads as it did. -/
def schedRoomSpec : ChangeSpec := { name := "schedRoom", fn := fun _ => fun
  | [d] => { results := [.lit (.bool true)], args := [d] }
  | _ => none }
def schedRoomRow : OpenClaim := { program := "ytnlolpiefidckaagreat", sum := "48572093d17114177e23bbb2c224ba164669e774efb3c13c9a75c4182a7e5455", func := "provost/provostlaw11.SchedRoom", spec := "schedRoom", inPlace := ["internal/abi.NoEscape", "math/bits.Add64", "math/bits.Sub64"], unfollowed := true, recurses := true, named := ["math/bits.divideError", "math/bits.overflowError"], apart := false }
def SchedRoomSaid : Prop := schedRoomRow.holds Tryz.pinned (OpenSpec.ofChange schedRoomSpec)

/-- ITS FALSE NEIGHBOUR: 'it returns false'. Refute it at one input. -/
def schedRoomWrong : ChangeSpec := { name := "schedRoom", fn := fun _ => fun
  | [d] => { results := [.lit (.bool false)], args := [d] }
  | _ => none }
def SchedRoomWrongFalsely : Prop := schedRoomRow.holds Tryz.pinned (OpenSpec.ofChange schedRoomWrong)

/-- 'provostlaw11.SchedBack': WHATEVER THE INPUT: true; the input reads as it did. -/
def schedBackSpec : ChangeSpec := { name := "schedBack", fn := fun _ => fun
  | [d1, d2] => { results := [.lit (.bool true)], args := [d1, d2] }
  | _ => none }
def schedBackRow : OpenClaim := { program := "ytnlolpiefidckaagreat", sum := "48572093d17114177e23bbb2c224ba164669e774efb3c13c9a75c4182a7e5455", func := "provost/provostlaw11.SchedBack", spec := "schedBack", inPlace := ["internal/abi.NoEscape", "math/bits.Add64", "math/bits.Sub64"], unfollowed := true, recurses := true, named := ["math/bits.divideError", "math/bits.overflowError"], apart := false }
def SchedBackSaid : Prop := schedBackRow.holds Tryz.pinned (OpenSpec.ofChange schedBackSpec)

/-- ITS FALSE NEIGHBOUR: 'it returns false'. Refute it at one input. -/
def schedBackWrong : ChangeSpec := { name := "schedBack", fn := fun _ => fun
  | [d1, d2] => { results := [.lit (.bool false)], args := [d1, d2] }
  | _ => none }
def SchedBackWrongFalsely : Prop := schedBackRow.holds Tryz.pinned (OpenSpec.ofChange schedBackWrong)

/-- 'provostlaw11.SchedNames': WHATEVER THE INPUT: true; the input reads as it did. -/
def schedNamesSpec : ChangeSpec := { name := "schedNames", fn := fun _ => fun
  | [d1, d2] => { results := [.lit (.bool true)], args := [d1, d2] }
  | _ => none }
def schedNamesRow : OpenClaim := { program := "ytnlolpiefidckaagreat", sum := "48572093d17114177e23bbb2c224ba164669e774efb3c13c9a75c4182a7e5455", func := "provost/provostlaw11.SchedNames", spec := "schedNames", inPlace := ["internal/abi.NoEscape", "math/bits.Add64", "math/bits.Sub64"], unfollowed := true, recurses := true, named := ["math/bits.divideError", "math/bits.overflowError"], apart := false }
def SchedNamesSaid : Prop := schedNamesRow.holds Tryz.pinned (OpenSpec.ofChange schedNamesSpec)

/-- ITS FALSE NEIGHBOUR: 'it returns false'. Refute it at one input. -/
def schedNamesWrong : ChangeSpec := { name := "schedNames", fn := fun _ => fun
  | [d1, d2] => { results := [.lit (.bool false)], args := [d1, d2] }
  | _ => none }
def SchedNamesWrongFalsely : Prop := schedNamesRow.holds Tryz.pinned (OpenSpec.ofChange schedNamesWrong)

/-- 'provostlaw11.SchedErrors': WHATEVER THE INPUT: true; the input reads as it did. -/
def schedErrorsSpec : ChangeSpec := { name := "schedErrors", fn := fun _ => fun
  | [d] => { results := [.lit (.bool true)], args := [d] }
  | _ => none }
def schedErrorsRow : OpenClaim := { program := "ytnlolpiefidckaagreat", sum := "48572093d17114177e23bbb2c224ba164669e774efb3c13c9a75c4182a7e5455", func := "provost/provostlaw11.SchedErrors", spec := "schedErrors", inPlace := ["internal/abi.NoEscape", "math/bits.Add64", "math/bits.Sub64"], unfollowed := true, recurses := true, named := ["math/bits.divideError", "math/bits.overflowError"], apart := false }
def SchedErrorsSaid : Prop := schedErrorsRow.holds Tryz.pinned (OpenSpec.ofChange schedErrorsSpec)

/-- ITS FALSE NEIGHBOUR: 'it returns false'. Refute it at one input. -/
def schedErrorsWrong : ChangeSpec := { name := "schedErrors", fn := fun _ => fun
  | [d] => { results := [.lit (.bool false)], args := [d] }
  | _ => none }
def SchedErrorsWrongFalsely : Prop := schedErrorsRow.holds Tryz.pinned (OpenSpec.ofChange schedErrorsWrong)

/-- 'provostlaw11.SchedUndo': WHATEVER THE INPUT: true; the input reads as it did. -/
def schedUndoSpec : ChangeSpec := { name := "schedUndo", fn := fun _ => fun
  | [d1, d2, d3, d4] => { results := [.lit (.bool true)], args := [d1, d2, d3, d4] }
  | _ => none }
def schedUndoRow : OpenClaim := { program := "ytnlolpiefidckaagreat", sum := "48572093d17114177e23bbb2c224ba164669e774efb3c13c9a75c4182a7e5455", func := "provost/provostlaw11.SchedUndo", spec := "schedUndo", inPlace := ["internal/abi.NoEscape", "math/bits.Add64", "math/bits.Sub64"], unfollowed := true, recurses := true, named := ["math/bits.divideError", "math/bits.overflowError"], apart := false }
def SchedUndoSaid : Prop := schedUndoRow.holds Tryz.pinned (OpenSpec.ofChange schedUndoSpec)

/-- ITS FALSE NEIGHBOUR: 'it returns false'. Refute it at one input. -/
def schedUndoWrong : ChangeSpec := { name := "schedUndo", fn := fun _ => fun
  | [d1, d2, d3, d4] => { results := [.lit (.bool false)], args := [d1, d2, d3, d4] }
  | _ => none }
def SchedUndoWrongFalsely : Prop := schedUndoRow.holds Tryz.pinned (OpenSpec.ofChange schedUndoWrong)

/-- 'provostlaw11.SchedRaise': WHATEVER THE INPUT: true; the input reads as it did. -/
def schedRaiseSpec : ChangeSpec := { name := "schedRaise", fn := fun _ => fun
  | [d1, d2] => { results := [.lit (.bool true)], args := [d1, d2] }
  | _ => none }
def schedRaiseRow : OpenClaim := { program := "ytnlolpiefidckaagreat", sum := "48572093d17114177e23bbb2c224ba164669e774efb3c13c9a75c4182a7e5455", func := "provost/provostlaw11.SchedRaise", spec := "schedRaise", inPlace := ["internal/abi.NoEscape", "math/bits.Add64", "math/bits.Sub64"], unfollowed := true, recurses := true, named := ["math/bits.divideError", "math/bits.overflowError"], apart := false }
def SchedRaiseSaid : Prop := schedRaiseRow.holds Tryz.pinned (OpenSpec.ofChange schedRaiseSpec)

/-- ITS FALSE NEIGHBOUR: 'it returns false'. Refute it at one input. -/
def schedRaiseWrong : ChangeSpec := { name := "schedRaise", fn := fun _ => fun
  | [d1, d2] => { results := [.lit (.bool false)], args := [d1, d2] }
  | _ => none }
def SchedRaiseWrongFalsely : Prop := schedRaiseRow.holds Tryz.pinned (OpenSpec.ofChange schedRaiseWrong)

/-- 'provostlaw11.SchedDrained': WHATEVER THE INPUT: true; the input reads as it did. -/
def schedDrainedSpec : ChangeSpec := { name := "schedDrained", fn := fun _ => fun
  | [d1, d2, d3] => { results := [.lit (.bool true)], args := [d1, d2, d3] }
  | _ => none }
def schedDrainedRow : OpenClaim := { program := "ytnlolpiefidckaagreat", sum := "48572093d17114177e23bbb2c224ba164669e774efb3c13c9a75c4182a7e5455", func := "provost/provostlaw11.SchedDrained", spec := "schedDrained", inPlace := ["internal/abi.NoEscape", "math/bits.Add64", "math/bits.Sub64"], unfollowed := true, recurses := true, named := ["math/bits.divideError", "math/bits.overflowError"], apart := false }
def SchedDrainedSaid : Prop := schedDrainedRow.holds Tryz.pinned (OpenSpec.ofChange schedDrainedSpec)

/-- ITS FALSE NEIGHBOUR: 'it returns false'. Refute it at one input. -/
def schedDrainedWrong : ChangeSpec := { name := "schedDrained", fn := fun _ => fun
  | [d1, d2, d3] => { results := [.lit (.bool false)], args := [d1, d2, d3] }
  | _ => none }
def SchedDrainedWrongFalsely : Prop := schedDrainedRow.holds Tryz.pinned (OpenSpec.ofChange schedDrainedWrong)

/- THE SECOND FORM. 'bulk': how many values and letters a reading holds, each counted each time it is reached (what is shared counts as often as it is met; a slice's spare places count too). A statement '..UptoSaid' is the law's where the arguments, and the package variables that the reading takes, are together of bulk at most 1048576: NARROWER than '..Said'. Prove '..Said' where nothing that the law and all that it calls make is longer than what came in: it says more and counts as full. Else prove '..UptoSaid'. A law counts once. -/
mutual
def uptoBulk {H : Type} : DataW H → Nat
  | .lit (.string bytes) => bytes.length + 1
  | .lit _ => 1
  | .nil => 1
  | .ptr d => uptoBulk d + 1
  | .slice elems spare => uptoBulkAll elems + uptoBulkAll spare + 1
  | .agg parts => uptoBulkAll parts + 1
  | .iface _ d => uptoBulk d + 1
  | .map entries => uptoBulkEntries entries + 1
  | .held _ => 1
def uptoBulkAll {H : Type} : List (DataW H) → Nat
  | [] => 0
  | d :: r => uptoBulk d + uptoBulkAll r
def uptoBulkEntries {H : Type} : List (Lit × DataW H) → Nat
  | [] => 0
  | x :: r => uptoBulkEntry x + uptoBulkEntries r
def uptoBulkEntry {H : Type} : Lit × DataW H → Nat
  | (.string bytes, d) => bytes.length + uptoBulk d + 1
  | (_, d) => uptoBulk d + 1
 end
def uptoSmall : (H : Type) → List (DataW H) → Bool := fun _ ds => decide (uptoBulkAll ds ≤ 1048576)
def OpenSpec.upto (s : _root_.Go.ChangeSpec) : _root_.Go.OpenSpec := { _root_.Go.OpenSpec.ofChange s with cond := some uptoSmall }

/-- 'provostlaw11.SchedDoes', WHERE WHAT IT READS IS OF BULK AT MOST 1048576: true; the input reads as it did. -/
def schedDoesUptoRow : OpenClaim := { program := "ytnlolpiefidckaagreat", sum := "48572093d17114177e23bbb2c224ba164669e774efb3c13c9a75c4182a7e5455", func := "provost/provostlaw11.SchedDoes", spec := "schedDoes", inPlace := ["internal/abi.NoEscape", "math/bits.Add64", "math/bits.Sub64"], unfollowed := true, recurses := true, named := ["math/bits.divideError", "math/bits.overflowError"], apart := false, narrowed := true }
def SchedDoesUptoSaid : Prop := schedDoesUptoRow.holds Tryz.pinned (OpenSpec.upto schedDoesSpec)

/-- 'provostlaw11.SchedLoads', WHERE WHAT IT READS IS OF BULK AT MOST 1048576: true; the input reads as it did. -/
def schedLoadsUptoRow : OpenClaim := { program := "ytnlolpiefidckaagreat", sum := "48572093d17114177e23bbb2c224ba164669e774efb3c13c9a75c4182a7e5455", func := "provost/provostlaw11.SchedLoads", spec := "schedLoads", inPlace := ["internal/abi.NoEscape", "math/bits.Add64", "math/bits.Sub64"], unfollowed := true, recurses := true, named := ["math/bits.divideError", "math/bits.overflowError"], apart := false, narrowed := true }
def SchedLoadsUptoSaid : Prop := schedLoadsUptoRow.holds Tryz.pinned (OpenSpec.upto schedLoadsSpec)

/-- 'provostlaw11.SchedRoom', WHERE WHAT IT READS IS OF BULK AT MOST 1048576: true; the input reads as it did. -/
def schedRoomUptoRow : OpenClaim := { program := "ytnlolpiefidckaagreat", sum := "48572093d17114177e23bbb2c224ba164669e774efb3c13c9a75c4182a7e5455", func := "provost/provostlaw11.SchedRoom", spec := "schedRoom", inPlace := ["internal/abi.NoEscape", "math/bits.Add64", "math/bits.Sub64"], unfollowed := true, recurses := true, named := ["math/bits.divideError", "math/bits.overflowError"], apart := false, narrowed := true }
def SchedRoomUptoSaid : Prop := schedRoomUptoRow.holds Tryz.pinned (OpenSpec.upto schedRoomSpec)

/-- 'provostlaw11.SchedBack', WHERE WHAT IT READS IS OF BULK AT MOST 1048576: true; the input reads as it did. -/
def schedBackUptoRow : OpenClaim := { program := "ytnlolpiefidckaagreat", sum := "48572093d17114177e23bbb2c224ba164669e774efb3c13c9a75c4182a7e5455", func := "provost/provostlaw11.SchedBack", spec := "schedBack", inPlace := ["internal/abi.NoEscape", "math/bits.Add64", "math/bits.Sub64"], unfollowed := true, recurses := true, named := ["math/bits.divideError", "math/bits.overflowError"], apart := false, narrowed := true }
def SchedBackUptoSaid : Prop := schedBackUptoRow.holds Tryz.pinned (OpenSpec.upto schedBackSpec)

/-- 'provostlaw11.SchedNames', WHERE WHAT IT READS IS OF BULK AT MOST 1048576: true; the input reads as it did. -/
def schedNamesUptoRow : OpenClaim := { program := "ytnlolpiefidckaagreat", sum := "48572093d17114177e23bbb2c224ba164669e774efb3c13c9a75c4182a7e5455", func := "provost/provostlaw11.SchedNames", spec := "schedNames", inPlace := ["internal/abi.NoEscape", "math/bits.Add64", "math/bits.Sub64"], unfollowed := true, recurses := true, named := ["math/bits.divideError", "math/bits.overflowError"], apart := false, narrowed := true }
def SchedNamesUptoSaid : Prop := schedNamesUptoRow.holds Tryz.pinned (OpenSpec.upto schedNamesSpec)

/-- 'provostlaw11.SchedErrors', WHERE WHAT IT READS IS OF BULK AT MOST 1048576: true; the input reads as it did. -/
def schedErrorsUptoRow : OpenClaim := { program := "ytnlolpiefidckaagreat", sum := "48572093d17114177e23bbb2c224ba164669e774efb3c13c9a75c4182a7e5455", func := "provost/provostlaw11.SchedErrors", spec := "schedErrors", inPlace := ["internal/abi.NoEscape", "math/bits.Add64", "math/bits.Sub64"], unfollowed := true, recurses := true, named := ["math/bits.divideError", "math/bits.overflowError"], apart := false, narrowed := true }
def SchedErrorsUptoSaid : Prop := schedErrorsUptoRow.holds Tryz.pinned (OpenSpec.upto schedErrorsSpec)

/-- 'provostlaw11.SchedUndo', WHERE WHAT IT READS IS OF BULK AT MOST 1048576: true; the input reads as it did. -/
def schedUndoUptoRow : OpenClaim := { program := "ytnlolpiefidckaagreat", sum := "48572093d17114177e23bbb2c224ba164669e774efb3c13c9a75c4182a7e5455", func := "provost/provostlaw11.SchedUndo", spec := "schedUndo", inPlace := ["internal/abi.NoEscape", "math/bits.Add64", "math/bits.Sub64"], unfollowed := true, recurses := true, named := ["math/bits.divideError", "math/bits.overflowError"], apart := false, narrowed := true }
def SchedUndoUptoSaid : Prop := schedUndoUptoRow.holds Tryz.pinned (OpenSpec.upto schedUndoSpec)

/-- 'provostlaw11.SchedRaise', WHERE WHAT IT READS IS OF BULK AT MOST 1048576: true; the input reads as it did. -/
def schedRaiseUptoRow : OpenClaim := { program := "ytnlolpiefidckaagreat", sum := "48572093d17114177e23bbb2c224ba164669e774efb3c13c9a75c4182a7e5455", func := "provost/provostlaw11.SchedRaise", spec := "schedRaise", inPlace := ["internal/abi.NoEscape", "math/bits.Add64", "math/bits.Sub64"], unfollowed := true, recurses := true, named := ["math/bits.divideError", "math/bits.overflowError"], apart := false, narrowed := true }
def SchedRaiseUptoSaid : Prop := schedRaiseUptoRow.holds Tryz.pinned (OpenSpec.upto schedRaiseSpec)

/-- 'provostlaw11.SchedDrained', WHERE WHAT IT READS IS OF BULK AT MOST 1048576: true; the input reads as it did. -/
def schedDrainedUptoRow : OpenClaim := { program := "ytnlolpiefidckaagreat", sum := "48572093d17114177e23bbb2c224ba164669e774efb3c13c9a75c4182a7e5455", func := "provost/provostlaw11.SchedDrained", spec := "schedDrained", inPlace := ["internal/abi.NoEscape", "math/bits.Add64", "math/bits.Sub64"], unfollowed := true, recurses := true, named := ["math/bits.divideError", "math/bits.overflowError"], apart := false, narrowed := true }
def SchedDrainedUptoSaid : Prop := schedDrainedUptoRow.holds Tryz.pinned (OpenSpec.upto schedDrainedSpec)

end Rows
end Go.Proofs.YtnlolpiefidckaaGreat
