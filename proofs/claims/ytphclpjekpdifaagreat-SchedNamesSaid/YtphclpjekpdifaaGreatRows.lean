/-
  No cell of these rows narrows 'for every input' (looked for: loops, veiled, ifaces, maps, wideKeys, modest, calm, conditions, laid).
  DERIVED. THE GIVEN ROWS OF THIS SEAT. 8 by the template 'for every input the law returns true; each argument reads behind the call as it read before'; 0 by the template 'total and deterministic' (their statements: YtphclpjekpdifaaGreatTotals.lean).
  GIVEN WITH THE SEED: the statements are not yours to turn. If you find one false, say at which input.
  Laid BY PROGRAM, IN A SANDBOX (cutbox-rows.mjs): the forced cells as the released guide's own fill.sh prints them over the translation fe1918f93ff890e3… (all of the seat's roots in one cut). By AI agents, Wed Nov 11 2026. No macro, syntax, notation, axiom, sorry.
-/
import Derived.Test.YtphclpjekpdifaaGreatChecked
import GoSem.Claim
import GoSem.ClaimJoined
import GoSem.ClaimMapViews
import Derived.JoinedTies
import Derived.KernelRfl
namespace Go.Proofs.YtphclpjekpdifaaGreat
/- THE CELL 'sum', in the pinned program and in every row, IS THE sha256 OF THE DUMP (.gsa) THAT YtphclpjekpdifaaGreatProg.lean LOADS. Nothing in Lean hashes anything: it is a label: what it is worth is what the hold of that sum in a sandbox is worth. -/
noncomputable def Tryz.pinned : Pinned := { name := "ytphclpjekpdifaagreat", sum := "fe1918f93ff890e3ee2feb3eec9923dc0659bbc333f5c5b2dea8fec909a0a043", checked := Tryz.checked }
namespace Rows
def none {H : Type} : Left H := { results := [], args := [] }

/-- 'provostlaw11.SchedRoom': WHATEVER THE INPUT: true; the input reads as it did. -/
def schedRoomSpec : ChangeSpec := { name := "schedRoom", fn := fun _ => fun
  | [d] => { results := [.lit (.bool true)], args := [d] }
  | _ => none }
def schedRoomRow : OpenClaim := { program := "ytphclpjekpdifaagreat", sum := "fe1918f93ff890e3ee2feb3eec9923dc0659bbc333f5c5b2dea8fec909a0a043", func := "provost/provostlaw11.SchedRoom", spec := "schedRoom", inPlace := ["internal/abi.NoEscape", "math/bits.Add64", "math/bits.Sub64"], unfollowed := true, recurses := true, named := ["math/bits.divideError", "math/bits.overflowError"], apart := false }
def SchedRoomSaid : Prop := schedRoomRow.holds Tryz.pinned (OpenSpec.ofChange schedRoomSpec)

/-- ITS FALSE NEIGHBOUR: 'it returns false'. Refute it at one input. -/
def schedRoomWrong : ChangeSpec := { name := "schedRoom", fn := fun _ => fun
  | [d] => { results := [.lit (.bool false)], args := [d] }
  | _ => none }
def SchedRoomWrongFalsely : Prop := schedRoomRow.holds Tryz.pinned (OpenSpec.ofChange schedRoomWrong)

/-- 'provostlaw11.SchedBack': WHATEVER THE INPUT: true; the input reads as it did. -/
def schedBackSpec : ChangeSpec := { name := "schedBack", fn := fun _ => fun
  | [d1, d2] => { results := [.lit (.bool true)], args := [d1, d2] }
  | _ => none }
def schedBackRow : OpenClaim := { program := "ytphclpjekpdifaagreat", sum := "fe1918f93ff890e3ee2feb3eec9923dc0659bbc333f5c5b2dea8fec909a0a043", func := "provost/provostlaw11.SchedBack", spec := "schedBack", inPlace := ["internal/abi.NoEscape", "math/bits.Add64", "math/bits.Sub64"], unfollowed := true, recurses := true, named := ["math/bits.divideError", "math/bits.overflowError"], apart := false }
def SchedBackSaid : Prop := schedBackRow.holds Tryz.pinned (OpenSpec.ofChange schedBackSpec)

/-- ITS FALSE NEIGHBOUR: 'it returns false'. Refute it at one input. -/
def schedBackWrong : ChangeSpec := { name := "schedBack", fn := fun _ => fun
  | [d1, d2] => { results := [.lit (.bool false)], args := [d1, d2] }
  | _ => none }
def SchedBackWrongFalsely : Prop := schedBackRow.holds Tryz.pinned (OpenSpec.ofChange schedBackWrong)

/-- 'provostlaw11.SchedNames': WHATEVER THE INPUT: true; the input reads as it did. -/
def schedNamesSpec : ChangeSpec := { name := "schedNames", fn := fun _ => fun
  | [d1, d2] => { results := [.lit (.bool true)], args := [d1, d2] }
  | _ => none }
def schedNamesRow : OpenClaim := { program := "ytphclpjekpdifaagreat", sum := "fe1918f93ff890e3ee2feb3eec9923dc0659bbc333f5c5b2dea8fec909a0a043", func := "provost/provostlaw11.SchedNames", spec := "schedNames", inPlace := ["internal/abi.NoEscape", "math/bits.Add64", "math/bits.Sub64"], unfollowed := true, recurses := true, named := ["math/bits.divideError", "math/bits.overflowError"], apart := false }
def SchedNamesSaid : Prop := schedNamesRow.holds Tryz.pinned (OpenSpec.ofChange schedNamesSpec)

/-- ITS FALSE NEIGHBOUR: 'it returns false'. Refute it at one input. -/
def schedNamesWrong : ChangeSpec := { name := "schedNames", fn := fun _ => fun
  | [d1, d2] => { results := [.lit (.bool false)], args := [d1, d2] }
  | _ => none }
def SchedNamesWrongFalsely : Prop := schedNamesRow.holds Tryz.pinned (OpenSpec.ofChange schedNamesWrong)

/-- 'provostlaw13.StateBack': WHATEVER THE INPUT: true; the input reads as it did. -/
def stateBackSpec : ChangeSpec := { name := "stateBack", fn := fun _ => fun
  | [d1, d2, d3] => { results := [.lit (.bool true)], args := [d1, d2, d3] }
  | _ => none }
def stateBackRow : OpenClaim := { program := "ytphclpjekpdifaagreat", sum := "fe1918f93ff890e3ee2feb3eec9923dc0659bbc333f5c5b2dea8fec909a0a043", func := "provost/provostlaw13.StateBack", spec := "stateBack", inPlace := ["internal/abi.NoEscape", "math/bits.Add64", "math/bits.Sub64"], unfollowed := true, recurses := true, named := ["math/bits.divideError", "math/bits.overflowError"], apart := false }
def StateBackSaid : Prop := stateBackRow.holds Tryz.pinned (OpenSpec.ofChange stateBackSpec)

/-- ITS FALSE NEIGHBOUR: 'it returns false'. Refute it at one input. -/
def stateBackWrong : ChangeSpec := { name := "stateBack", fn := fun _ => fun
  | [d1, d2, d3] => { results := [.lit (.bool false)], args := [d1, d2, d3] }
  | _ => none }
def StateBackWrongFalsely : Prop := stateBackRow.holds Tryz.pinned (OpenSpec.ofChange stateBackWrong)

/-- 'provostlaw13.StateOnce': WHATEVER THE INPUT: true; the input reads as it did. -/
def stateOnceSpec : ChangeSpec := { name := "stateOnce", fn := fun _ => fun
  | [d1, d2, d3] => { results := [.lit (.bool true)], args := [d1, d2, d3] }
  | _ => none }
def stateOnceRow : OpenClaim := { program := "ytphclpjekpdifaagreat", sum := "fe1918f93ff890e3ee2feb3eec9923dc0659bbc333f5c5b2dea8fec909a0a043", func := "provost/provostlaw13.StateOnce", spec := "stateOnce", inPlace := ["internal/abi.NoEscape", "math/bits.Add64", "math/bits.Sub64"], unfollowed := true, recurses := true, named := ["math/bits.divideError", "math/bits.overflowError"], apart := false }
def StateOnceSaid : Prop := stateOnceRow.holds Tryz.pinned (OpenSpec.ofChange stateOnceSpec)

/-- ITS FALSE NEIGHBOUR: 'it returns false'. Refute it at one input. -/
def stateOnceWrong : ChangeSpec := { name := "stateOnce", fn := fun _ => fun
  | [d1, d2, d3] => { results := [.lit (.bool false)], args := [d1, d2, d3] }
  | _ => none }
def StateOnceWrongFalsely : Prop := stateOnceRow.holds Tryz.pinned (OpenSpec.ofChange stateOnceWrong)

/-- 'provostlaw13.StateCommon': WHATEVER THE INPUT: true; the input reads as it did. -/
def stateCommonSpec : ChangeSpec := { name := "stateCommon", fn := fun _ => fun
  | [d1, d2] => { results := [.lit (.bool true)], args := [d1, d2] }
  | _ => none }
def stateCommonRow : OpenClaim := { program := "ytphclpjekpdifaagreat", sum := "fe1918f93ff890e3ee2feb3eec9923dc0659bbc333f5c5b2dea8fec909a0a043", func := "provost/provostlaw13.StateCommon", spec := "stateCommon", inPlace := ["internal/abi.NoEscape", "math/bits.Add64", "math/bits.Sub64"], unfollowed := true, recurses := true, named := ["math/bits.divideError", "math/bits.overflowError"], apart := false }
def StateCommonSaid : Prop := stateCommonRow.holds Tryz.pinned (OpenSpec.ofChange stateCommonSpec)

/-- ITS FALSE NEIGHBOUR: 'it returns false'. Refute it at one input. -/
def stateCommonWrong : ChangeSpec := { name := "stateCommon", fn := fun _ => fun
  | [d1, d2] => { results := [.lit (.bool false)], args := [d1, d2] }
  | _ => none }
def StateCommonWrongFalsely : Prop := stateCommonRow.holds Tryz.pinned (OpenSpec.ofChange stateCommonWrong)

/-- 'provostlaw13.StateLooks': WHATEVER THE INPUT: true; the input reads as it did. -/
def stateLooksSpec : ChangeSpec := { name := "stateLooks", fn := fun _ => fun
  | [d1, d2, d3] => { results := [.lit (.bool true)], args := [d1, d2, d3] }
  | _ => none }
def stateLooksRow : OpenClaim := { program := "ytphclpjekpdifaagreat", sum := "fe1918f93ff890e3ee2feb3eec9923dc0659bbc333f5c5b2dea8fec909a0a043", func := "provost/provostlaw13.StateLooks", spec := "stateLooks", inPlace := ["internal/abi.NoEscape", "math/bits.Add64", "math/bits.Sub64"], unfollowed := true, recurses := true, named := ["math/bits.divideError", "math/bits.overflowError"], apart := false }
def StateLooksSaid : Prop := stateLooksRow.holds Tryz.pinned (OpenSpec.ofChange stateLooksSpec)

/-- ITS FALSE NEIGHBOUR: 'it returns false'. Refute it at one input. -/
def stateLooksWrong : ChangeSpec := { name := "stateLooks", fn := fun _ => fun
  | [d1, d2, d3] => { results := [.lit (.bool false)], args := [d1, d2, d3] }
  | _ => none }
def StateLooksWrongFalsely : Prop := stateLooksRow.holds Tryz.pinned (OpenSpec.ofChange stateLooksWrong)

/-- 'provostlaw13.StateReports': WHATEVER THE INPUT: true; the input reads as it did. -/
def stateReportsSpec : ChangeSpec := { name := "stateReports", fn := fun _ => fun
  | [d1, d2, d3, d4] => { results := [.lit (.bool true)], args := [d1, d2, d3, d4] }
  | _ => none }
def stateReportsRow : OpenClaim := { program := "ytphclpjekpdifaagreat", sum := "fe1918f93ff890e3ee2feb3eec9923dc0659bbc333f5c5b2dea8fec909a0a043", func := "provost/provostlaw13.StateReports", spec := "stateReports", inPlace := ["internal/abi.NoEscape", "math/bits.Add64", "math/bits.Sub64"], unfollowed := true, recurses := true, named := ["math/bits.divideError", "math/bits.overflowError"], apart := false }
def StateReportsSaid : Prop := stateReportsRow.holds Tryz.pinned (OpenSpec.ofChange stateReportsSpec)

/-- ITS FALSE NEIGHBOUR: 'it returns false'. Refute it at one input. -/
def stateReportsWrong : ChangeSpec := { name := "stateReports", fn := fun _ => fun
  | [d1, d2, d3, d4] => { results := [.lit (.bool false)], args := [d1, d2, d3, d4] }
  | _ => none }
def StateReportsWrongFalsely : Prop := stateReportsRow.holds Tryz.pinned (OpenSpec.ofChange stateReportsWrong)

/- THE SECOND FORM. 'bulk': how many values and letters a reading holds, each counted each time it is reached (what is shared counts as often as it is met; a slice's spare places count too). A statement '..UptoSaid' is the law's where the arguments, and the package variables that the reading takes, are together of bulk at most 1048576: NARROWER than '..Said'. Prove '..Said' where nothing that the law and all that it calls make is longer than what came in: it says more and counts as full. Else prove '..UptoSaid'. A law counts once. -/
mutual
def uptoBulk {H : Type} : DataW H → Nat
  | .lit (.string bytes) => bytes.length + 1
  | .lit _ => 1
  | .nil => 1
  | .ptr d => uptoBulk d + 1
  | .slice elems spare => uptoBulkAll elems + uptoBulkAll spare + 1
  | .agg parts => uptoBulkAll parts + 1
  | .iface _ d => uptoBulk d + 1
  | .map entries => uptoBulkEntries entries + 1
  | .held _ => 1
def uptoBulkAll {H : Type} : List (DataW H) → Nat
  | [] => 0
  | d :: r => uptoBulk d + uptoBulkAll r
def uptoBulkEntries {H : Type} : List (Lit × DataW H) → Nat
  | [] => 0
  | x :: r => uptoBulkEntry x + uptoBulkEntries r
def uptoBulkEntry {H : Type} : Lit × DataW H → Nat
  | (.string bytes, d) => bytes.length + uptoBulk d + 1
  | (_, d) => uptoBulk d + 1
 end
def uptoSmall : (H : Type) → List (DataW H) → Bool := fun _ ds => decide (uptoBulkAll ds ≤ 1048576)
def OpenSpec.upto (s : _root_.Go.ChangeSpec) : _root_.Go.OpenSpec := { _root_.Go.OpenSpec.ofChange s with cond := some uptoSmall }

/-- 'provostlaw11.SchedRoom', WHERE WHAT IT READS IS OF BULK AT MOST 1048576: true; the input reads as it did. -/
def schedRoomUptoRow : OpenClaim := { program := "ytphclpjekpdifaagreat", sum := "fe1918f93ff890e3ee2feb3eec9923dc0659bbc333f5c5b2dea8fec909a0a043", func := "provost/provostlaw11.SchedRoom", spec := "schedRoom", inPlace := ["internal/abi.NoEscape", "math/bits.Add64", "math/bits.Sub64"], unfollowed := true, recurses := true, named := ["math/bits.divideError", "math/bits.overflowError"], apart := false, narrowed := true }
def SchedRoomUptoSaid : Prop := schedRoomUptoRow.holds Tryz.pinned (OpenSpec.upto schedRoomSpec)

/-- 'provostlaw11.SchedBack', WHERE WHAT IT READS IS OF BULK AT MOST 1048576: true; the input reads as it did. -/
def schedBackUptoRow : OpenClaim := { program := "ytphclpjekpdifaagreat", sum := "fe1918f93ff890e3ee2feb3eec9923dc0659bbc333f5c5b2dea8fec909a0a043", func := "provost/provostlaw11.SchedBack", spec := "schedBack", inPlace := ["internal/abi.NoEscape", "math/bits.Add64", "math/bits.Sub64"], unfollowed := true, recurses := true, named := ["math/bits.divideError", "math/bits.overflowError"], apart := false, narrowed := true }
def SchedBackUptoSaid : Prop := schedBackUptoRow.holds Tryz.pinned (OpenSpec.upto schedBackSpec)

/-- 'provostlaw11.SchedNames', WHERE WHAT IT READS IS OF BULK AT MOST 1048576: true; the input reads as it did. -/
def schedNamesUptoRow : OpenClaim := { program := "ytphclpjekpdifaagreat", sum := "fe1918f93ff890e3ee2feb3eec9923dc0659bbc333f5c5b2dea8fec909a0a043", func := "provost/provostlaw11.SchedNames", spec := "schedNames", inPlace := ["internal/abi.NoEscape", "math/bits.Add64", "math/bits.Sub64"], unfollowed := true, recurses := true, named := ["math/bits.divideError", "math/bits.overflowError"], apart := false, narrowed := true }
def SchedNamesUptoSaid : Prop := schedNamesUptoRow.holds Tryz.pinned (OpenSpec.upto schedNamesSpec)

/-- 'provostlaw13.StateBack', WHERE WHAT IT READS IS OF BULK AT MOST 1048576: true; the input reads as it did. -/
def stateBackUptoRow : OpenClaim := { program := "ytphclpjekpdifaagreat", sum := "fe1918f93ff890e3ee2feb3eec9923dc0659bbc333f5c5b2dea8fec909a0a043", func := "provost/provostlaw13.StateBack", spec := "stateBack", inPlace := ["internal/abi.NoEscape", "math/bits.Add64", "math/bits.Sub64"], unfollowed := true, recurses := true, named := ["math/bits.divideError", "math/bits.overflowError"], apart := false, narrowed := true }
def StateBackUptoSaid : Prop := stateBackUptoRow.holds Tryz.pinned (OpenSpec.upto stateBackSpec)

/-- 'provostlaw13.StateOnce', WHERE WHAT IT READS IS OF BULK AT MOST 1048576: true; the input reads as it did. -/
def stateOnceUptoRow : OpenClaim := { program := "ytphclpjekpdifaagreat", sum := "fe1918f93ff890e3ee2feb3eec9923dc0659bbc333f5c5b2dea8fec909a0a043", func := "provost/provostlaw13.StateOnce", spec := "stateOnce", inPlace := ["internal/abi.NoEscape", "math/bits.Add64", "math/bits.Sub64"], unfollowed := true, recurses := true, named := ["math/bits.divideError", "math/bits.overflowError"], apart := false, narrowed := true }
def StateOnceUptoSaid : Prop := stateOnceUptoRow.holds Tryz.pinned (OpenSpec.upto stateOnceSpec)

/-- 'provostlaw13.StateCommon', WHERE WHAT IT READS IS OF BULK AT MOST 1048576: true; the input reads as it did. -/
def stateCommonUptoRow : OpenClaim := { program := "ytphclpjekpdifaagreat", sum := "fe1918f93ff890e3ee2feb3eec9923dc0659bbc333f5c5b2dea8fec909a0a043", func := "provost/provostlaw13.StateCommon", spec := "stateCommon", inPlace := ["internal/abi.NoEscape", "math/bits.Add64", "math/bits.Sub64"], unfollowed := true, recurses := true, named := ["math/bits.divideError", "math/bits.overflowError"], apart := false, narrowed := true }
def StateCommonUptoSaid : Prop := stateCommonUptoRow.holds Tryz.pinned (OpenSpec.upto stateCommonSpec)

/-- 'provostlaw13.StateLooks', WHERE WHAT IT READS IS OF BULK AT MOST 1048576: true; the input reads as it did. -/
def stateLooksUptoRow : OpenClaim := { program := "ytphclpjekpdifaagreat", sum := "fe1918f93ff890e3ee2feb3eec9923dc0659bbc333f5c5b2dea8fec909a0a043", func := "provost/provostlaw13.StateLooks", spec := "stateLooks", inPlace := ["internal/abi.NoEscape", "math/bits.Add64", "math/bits.Sub64"], unfollowed := true, recurses := true, named := ["math/bits.divideError", "math/bits.overflowError"], apart := false, narrowed := true }
def StateLooksUptoSaid : Prop := stateLooksUptoRow.holds Tryz.pinned (OpenSpec.upto stateLooksSpec)

/-- 'provostlaw13.StateReports', WHERE WHAT IT READS IS OF BULK AT MOST 1048576: true; the input reads as it did. -/
def stateReportsUptoRow : OpenClaim := { program := "ytphclpjekpdifaagreat", sum := "fe1918f93ff890e3ee2feb3eec9923dc0659bbc333f5c5b2dea8fec909a0a043", func := "provost/provostlaw13.StateReports", spec := "stateReports", inPlace := ["internal/abi.NoEscape", "math/bits.Add64", "math/bits.Sub64"], unfollowed := true, recurses := true, named := ["math/bits.divideError", "math/bits.overflowError"], apart := false, narrowed := true }
def StateReportsUptoSaid : Prop := stateReportsUptoRow.holds Tryz.pinned (OpenSpec.upto stateReportsSpec)

end Rows
end Go.Proofs.YtphclpjekpdifaaGreat
