/-
  No cell of these rows narrows 'for every input' (looked for: loops, veiled, ifaces, maps, wideKeys, modest, calm, conditions, laid).
  DERIVED. THE GIVEN ROWS OF THIS SEAT. 8 by the template 'for every input the law returns true; each argument reads behind the call as it read before'; 0 by the template 'total and deterministic' (their statements: YtbbfjlkgfaniaaaTotals.lean).
  GIVEN WITH THE SEED: the statements are not yours to turn. If you find one false, say at which input.
  Laid BY PROGRAM, IN A SANDBOX (cutbox-rows.mjs): the forced cells as the released guide's own fill.sh prints them over the translation 34bcf3c6e843ef76… (all of the seat's roots in one cut). By AI agents, Wed Nov 11 2026. No macro, syntax, notation, axiom, sorry.
-/
import Derived.Test.YtbbfjlkgfaniaaaChecked
import GoSem.Claim
import GoSem.ClaimJoined
import GoSem.ClaimMapViews
import Derived.JoinedTies
import Derived.KernelRfl
namespace Go.Proofs.Ytbbfjlkgfaniaaa
/- THE CELL 'sum', in the pinned program and in every row, IS THE sha256 OF THE DUMP (.gsa) THAT YtbbfjlkgfaniaaaProg.lean LOADS. Nothing in Lean hashes anything: it is a label: what it is worth is what the hold of that sum in a sandbox is worth. -/
noncomputable def Try.pinned : Pinned := { name := "ytbbfjlkgfaniaaa", sum := "34bcf3c6e843ef767b9bb02431f991b829a9b564dec2880809787d2712e55c79", checked := Try.checked }
namespace Rows
def none {H : Type} : Left H := { results := [], args := [] }

/-- 'provostlaw12.SessionDoes': WHATEVER THE INPUT: true; the input reads as it did. -/
def sessionDoesSpec : ChangeSpec := { name := "sessionDoes", fn := fun _ => fun
  | [d1, d2] => { results := [.lit (.bool true)], args := [d1, d2] }
  | _ => none }
def sessionDoesRow : OpenClaim := { program := "ytbbfjlkgfaniaaa", sum := "34bcf3c6e843ef767b9bb02431f991b829a9b564dec2880809787d2712e55c79", func := "provost/provostlaw12.SessionDoes", spec := "sessionDoes", unfollowed := true, recurses := true, apart := false }
def SessionDoesSaid : Prop := sessionDoesRow.holds Try.pinned (OpenSpec.ofChange sessionDoesSpec)

/-- ITS FALSE NEIGHBOUR: 'it returns false'. Refute it at one input. -/
def sessionDoesWrong : ChangeSpec := { name := "sessionDoes", fn := fun _ => fun
  | [d1, d2] => { results := [.lit (.bool false)], args := [d1, d2] }
  | _ => none }
def SessionDoesWrongFalsely : Prop := sessionDoesRow.holds Try.pinned (OpenSpec.ofChange sessionDoesWrong)

/-- 'provostlaw12.SessionOnce': WHATEVER THE INPUT: true; the input reads as it did. -/
def sessionOnceSpec : ChangeSpec := { name := "sessionOnce", fn := fun _ => fun
  | [d1, d2, d3, d4, d5] => { results := [.lit (.bool true)], args := [d1, d2, d3, d4, d5] }
  | _ => none }
def sessionOnceRow : OpenClaim := { program := "ytbbfjlkgfaniaaa", sum := "34bcf3c6e843ef767b9bb02431f991b829a9b564dec2880809787d2712e55c79", func := "provost/provostlaw12.SessionOnce", spec := "sessionOnce", unfollowed := true, recurses := true, apart := false }
def SessionOnceSaid : Prop := sessionOnceRow.holds Try.pinned (OpenSpec.ofChange sessionOnceSpec)

/-- ITS FALSE NEIGHBOUR: 'it returns false'. Refute it at one input. -/
def sessionOnceWrong : ChangeSpec := { name := "sessionOnce", fn := fun _ => fun
  | [d1, d2, d3, d4, d5] => { results := [.lit (.bool false)], args := [d1, d2, d3, d4, d5] }
  | _ => none }
def SessionOnceWrongFalsely : Prop := sessionOnceRow.holds Try.pinned (OpenSpec.ofChange sessionOnceWrong)

/-- 'provostlaw12.SessionAlone': WHATEVER THE INPUT: true; the input reads as it did. -/
def sessionAloneSpec : ChangeSpec := { name := "sessionAlone", fn := fun _ => fun
  | [d1, d2, d3, d4] => { results := [.lit (.bool true)], args := [d1, d2, d3, d4] }
  | _ => none }
def sessionAloneRow : OpenClaim := { program := "ytbbfjlkgfaniaaa", sum := "34bcf3c6e843ef767b9bb02431f991b829a9b564dec2880809787d2712e55c79", func := "provost/provostlaw12.SessionAlone", spec := "sessionAlone", unfollowed := true, recurses := true, apart := false }
def SessionAloneSaid : Prop := sessionAloneRow.holds Try.pinned (OpenSpec.ofChange sessionAloneSpec)

/-- ITS FALSE NEIGHBOUR: 'it returns false'. Refute it at one input. -/
def sessionAloneWrong : ChangeSpec := { name := "sessionAlone", fn := fun _ => fun
  | [d1, d2, d3, d4] => { results := [.lit (.bool false)], args := [d1, d2, d3, d4] }
  | _ => none }
def SessionAloneWrongFalsely : Prop := sessionAloneRow.holds Try.pinned (OpenSpec.ofChange sessionAloneWrong)

/-- 'provostlaw12.SessionBack': WHATEVER THE INPUT: true; the input reads as it did. -/
def sessionBackSpec : ChangeSpec := { name := "sessionBack", fn := fun _ => fun
  | [d1, d2] => { results := [.lit (.bool true)], args := [d1, d2] }
  | _ => none }
def sessionBackRow : OpenClaim := { program := "ytbbfjlkgfaniaaa", sum := "34bcf3c6e843ef767b9bb02431f991b829a9b564dec2880809787d2712e55c79", func := "provost/provostlaw12.SessionBack", spec := "sessionBack", unfollowed := true, recurses := true, apart := false }
def SessionBackSaid : Prop := sessionBackRow.holds Try.pinned (OpenSpec.ofChange sessionBackSpec)

/-- ITS FALSE NEIGHBOUR: 'it returns false'. Refute it at one input. -/
def sessionBackWrong : ChangeSpec := { name := "sessionBack", fn := fun _ => fun
  | [d1, d2] => { results := [.lit (.bool false)], args := [d1, d2] }
  | _ => none }
def SessionBackWrongFalsely : Prop := sessionBackRow.holds Try.pinned (OpenSpec.ofChange sessionBackWrong)

/-- 'provostlaw12.SessionExpires': WHATEVER THE INPUT: true; the input reads as it did. -/
def sessionExpiresSpec : ChangeSpec := { name := "sessionExpires", fn := fun _ => fun
  | [d1, d2] => { results := [.lit (.bool true)], args := [d1, d2] }
  | _ => none }
def sessionExpiresRow : OpenClaim := { program := "ytbbfjlkgfaniaaa", sum := "34bcf3c6e843ef767b9bb02431f991b829a9b564dec2880809787d2712e55c79", func := "provost/provostlaw12.SessionExpires", spec := "sessionExpires", unfollowed := true, recurses := true, apart := false }
def SessionExpiresSaid : Prop := sessionExpiresRow.holds Try.pinned (OpenSpec.ofChange sessionExpiresSpec)

/-- ITS FALSE NEIGHBOUR: 'it returns false'. Refute it at one input. -/
def sessionExpiresWrong : ChangeSpec := { name := "sessionExpires", fn := fun _ => fun
  | [d1, d2] => { results := [.lit (.bool false)], args := [d1, d2] }
  | _ => none }
def SessionExpiresWrongFalsely : Prop := sessionExpiresRow.holds Try.pinned (OpenSpec.ofChange sessionExpiresWrong)

/-- 'provostlaw12.SessionErrors': WHATEVER THE INPUT: true; the input reads as it did. -/
def sessionErrorsSpec : ChangeSpec := { name := "sessionErrors", fn := fun _ => fun
  | [d1, d2, d3, d4] => { results := [.lit (.bool true)], args := [d1, d2, d3, d4] }
  | _ => none }
def sessionErrorsRow : OpenClaim := { program := "ytbbfjlkgfaniaaa", sum := "34bcf3c6e843ef767b9bb02431f991b829a9b564dec2880809787d2712e55c79", func := "provost/provostlaw12.SessionErrors", spec := "sessionErrors", unfollowed := true, recurses := true, apart := false }
def SessionErrorsSaid : Prop := sessionErrorsRow.holds Try.pinned (OpenSpec.ofChange sessionErrorsSpec)

/-- ITS FALSE NEIGHBOUR: 'it returns false'. Refute it at one input. -/
def sessionErrorsWrong : ChangeSpec := { name := "sessionErrors", fn := fun _ => fun
  | [d1, d2, d3, d4] => { results := [.lit (.bool false)], args := [d1, d2, d3, d4] }
  | _ => none }
def SessionErrorsWrongFalsely : Prop := sessionErrorsRow.holds Try.pinned (OpenSpec.ofChange sessionErrorsWrong)

/-- 'provostlaw12.SessionNumbers': WHATEVER THE INPUT: true; the input reads as it did. -/
def sessionNumbersSpec : ChangeSpec := { name := "sessionNumbers", fn := fun _ => fun
  | [d] => { results := [.lit (.bool true)], args := [d] }
  | _ => none }
def sessionNumbersRow : OpenClaim := { program := "ytbbfjlkgfaniaaa", sum := "34bcf3c6e843ef767b9bb02431f991b829a9b564dec2880809787d2712e55c79", func := "provost/provostlaw12.SessionNumbers", spec := "sessionNumbers", unfollowed := true, recurses := true, apart := false }
def SessionNumbersSaid : Prop := sessionNumbersRow.holds Try.pinned (OpenSpec.ofChange sessionNumbersSpec)

/-- ITS FALSE NEIGHBOUR: 'it returns false'. Refute it at one input. -/
def sessionNumbersWrong : ChangeSpec := { name := "sessionNumbers", fn := fun _ => fun
  | [d] => { results := [.lit (.bool false)], args := [d] }
  | _ => none }
def SessionNumbersWrongFalsely : Prop := sessionNumbersRow.holds Try.pinned (OpenSpec.ofChange sessionNumbersWrong)

/-- 'provostlaw12.SessionLooks': WHATEVER THE INPUT: true; the input reads as it did. -/
def sessionLooksSpec : ChangeSpec := { name := "sessionLooks", fn := fun _ => fun
  | [d1, d2, d3] => { results := [.lit (.bool true)], args := [d1, d2, d3] }
  | _ => none }
def sessionLooksRow : OpenClaim := { program := "ytbbfjlkgfaniaaa", sum := "34bcf3c6e843ef767b9bb02431f991b829a9b564dec2880809787d2712e55c79", func := "provost/provostlaw12.SessionLooks", spec := "sessionLooks", unfollowed := true, recurses := true, apart := false }
def SessionLooksSaid : Prop := sessionLooksRow.holds Try.pinned (OpenSpec.ofChange sessionLooksSpec)

/-- ITS FALSE NEIGHBOUR: 'it returns false'. Refute it at one input. -/
def sessionLooksWrong : ChangeSpec := { name := "sessionLooks", fn := fun _ => fun
  | [d1, d2, d3] => { results := [.lit (.bool false)], args := [d1, d2, d3] }
  | _ => none }
def SessionLooksWrongFalsely : Prop := sessionLooksRow.holds Try.pinned (OpenSpec.ofChange sessionLooksWrong)

/- THE SECOND FORM. 'bulk': how many values and letters a reading holds, each counted each time it is reached (what is shared counts as often as it is met; a slice's spare places count too). A statement '..UptoSaid' is the law's where the arguments, and the package variables that the reading takes, are together of bulk at most 1048576: NARROWER than '..Said'. Prove '..Said' where nothing that the law and all that it calls make is longer than what came in: it says more and counts as full. Else prove '..UptoSaid'. A law counts once. -/
mutual
def uptoBulk {H : Type} : DataW H → Nat
  | .lit (.string bytes) => bytes.length + 1
  | .lit _ => 1
  | .nil => 1
  | .ptr d => uptoBulk d + 1
  | .slice elems spare => uptoBulkAll elems + uptoBulkAll spare + 1
  | .agg parts => uptoBulkAll parts + 1
  | .iface _ d => uptoBulk d + 1
  | .map entries => uptoBulkEntries entries + 1
  | .held _ => 1
def uptoBulkAll {H : Type} : List (DataW H) → Nat
  | [] => 0
  | d :: r => uptoBulk d + uptoBulkAll r
def uptoBulkEntries {H : Type} : List (Lit × DataW H) → Nat
  | [] => 0
  | x :: r => uptoBulkEntry x + uptoBulkEntries r
def uptoBulkEntry {H : Type} : Lit × DataW H → Nat
  | (.string bytes, d) => bytes.length + uptoBulk d + 1
  | (_, d) => uptoBulk d + 1
 end
def uptoSmall : (H : Type) → List (DataW H) → Bool := fun _ ds => decide (uptoBulkAll ds ≤ 1048576)
def OpenSpec.upto (s : _root_.Go.ChangeSpec) : _root_.Go.OpenSpec := { _root_.Go.OpenSpec.ofChange s with cond := some uptoSmall }

/-- 'provostlaw12.SessionDoes', WHERE WHAT IT READS IS OF BULK AT MOST 1048576: true; the input reads as it did. -/
def sessionDoesUptoRow : OpenClaim := { program := "ytbbfjlkgfaniaaa", sum := "34bcf3c6e843ef767b9bb02431f991b829a9b564dec2880809787d2712e55c79", func := "provost/provostlaw12.SessionDoes", spec := "sessionDoes", unfollowed := true, recurses := true, apart := false, narrowed := true }
def SessionDoesUptoSaid : Prop := sessionDoesUptoRow.holds Try.pinned (OpenSpec.upto sessionDoesSpec)

/-- 'provostlaw12.SessionOnce', WHERE WHAT IT READS IS OF BULK AT MOST 1048576: true; the input reads as it did. -/
def sessionOnceUptoRow : OpenClaim := { program := "ytbbfjlkgfaniaaa", sum := "34bcf3c6e843ef767b9bb02431f991b829a9b564dec2880809787d2712e55c79", func := "provost/provostlaw12.SessionOnce", spec := "sessionOnce", unfollowed := true, recurses := true, apart := false, narrowed := true }
def SessionOnceUptoSaid : Prop := sessionOnceUptoRow.holds Try.pinned (OpenSpec.upto sessionOnceSpec)

/-- 'provostlaw12.SessionAlone', WHERE WHAT IT READS IS OF BULK AT MOST 1048576: true; the input reads as it did. -/
def sessionAloneUptoRow : OpenClaim := { program := "ytbbfjlkgfaniaaa", sum := "34bcf3c6e843ef767b9bb02431f991b829a9b564dec2880809787d2712e55c79", func := "provost/provostlaw12.SessionAlone", spec := "sessionAlone", unfollowed := true, recurses := true, apart := false, narrowed := true }
def SessionAloneUptoSaid : Prop := sessionAloneUptoRow.holds Try.pinned (OpenSpec.upto sessionAloneSpec)

/-- 'provostlaw12.SessionBack', WHERE WHAT IT READS IS OF BULK AT MOST 1048576: true; the input reads as it did. -/
def sessionBackUptoRow : OpenClaim := { program := "ytbbfjlkgfaniaaa", sum := "34bcf3c6e843ef767b9bb02431f991b829a9b564dec2880809787d2712e55c79", func := "provost/provostlaw12.SessionBack", spec := "sessionBack", unfollowed := true, recurses := true, apart := false, narrowed := true }
def SessionBackUptoSaid : Prop := sessionBackUptoRow.holds Try.pinned (OpenSpec.upto sessionBackSpec)

/-- 'provostlaw12.SessionExpires', WHERE WHAT IT READS IS OF BULK AT MOST 1048576: true; the input reads as it did. -/
def sessionExpiresUptoRow : OpenClaim := { program := "ytbbfjlkgfaniaaa", sum := "34bcf3c6e843ef767b9bb02431f991b829a9b564dec2880809787d2712e55c79", func := "provost/provostlaw12.SessionExpires", spec := "sessionExpires", unfollowed := true, recurses := true, apart := false, narrowed := true }
def SessionExpiresUptoSaid : Prop := sessionExpiresUptoRow.holds Try.pinned (OpenSpec.upto sessionExpiresSpec)

/-- 'provostlaw12.SessionErrors', WHERE WHAT IT READS IS OF BULK AT MOST 1048576: true; the input reads as it did. -/
def sessionErrorsUptoRow : OpenClaim := { program := "ytbbfjlkgfaniaaa", sum := "34bcf3c6e843ef767b9bb02431f991b829a9b564dec2880809787d2712e55c79", func := "provost/provostlaw12.SessionErrors", spec := "sessionErrors", unfollowed := true, recurses := true, apart := false, narrowed := true }
def SessionErrorsUptoSaid : Prop := sessionErrorsUptoRow.holds Try.pinned (OpenSpec.upto sessionErrorsSpec)

/-- 'provostlaw12.SessionNumbers', WHERE WHAT IT READS IS OF BULK AT MOST 1048576: true; the input reads as it did. -/
def sessionNumbersUptoRow : OpenClaim := { program := "ytbbfjlkgfaniaaa", sum := "34bcf3c6e843ef767b9bb02431f991b829a9b564dec2880809787d2712e55c79", func := "provost/provostlaw12.SessionNumbers", spec := "sessionNumbers", unfollowed := true, recurses := true, apart := false, narrowed := true }
def SessionNumbersUptoSaid : Prop := sessionNumbersUptoRow.holds Try.pinned (OpenSpec.upto sessionNumbersSpec)

/-- 'provostlaw12.SessionLooks', WHERE WHAT IT READS IS OF BULK AT MOST 1048576: true; the input reads as it did. -/
def sessionLooksUptoRow : OpenClaim := { program := "ytbbfjlkgfaniaaa", sum := "34bcf3c6e843ef767b9bb02431f991b829a9b564dec2880809787d2712e55c79", func := "provost/provostlaw12.SessionLooks", spec := "sessionLooks", unfollowed := true, recurses := true, apart := false, narrowed := true }
def SessionLooksUptoSaid : Prop := sessionLooksUptoRow.holds Try.pinned (OpenSpec.upto sessionLooksSpec)

end Rows
end Go.Proofs.Ytbbfjlkgfaniaaa
