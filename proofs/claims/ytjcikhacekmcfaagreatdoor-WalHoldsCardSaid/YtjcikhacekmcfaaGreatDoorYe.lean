import Derived.Test.YtjcikhacekmcfaaGreatDoorWn
import Derived.Test.YtjcikhacekmcfaaGreatDoorTie
import Derived.Lib.LaidTab
import Derived.LaidMore
import Derived.LaidSub
import Derived.OpenShut
import Derived.ShutString
import Derived.SizedLaws
import Derived.ChangeSame
import Derived.ChangeVars
import Derived.JoinedOf
import Derived.RowKit
import Derived.RowKitTokens
import Derived.LaidLaws
import Derived.LaidHandle
import Derived.Stop.Joined
/- What the tied variables of the row give a walk: the table of powers of ten, and the sentinel of strconv. -/
namespace Go.Proofs.YtjcikhacekmcfaaGreatDoor
open Go.RowKit
set_option linter.unusedVariables false
theorem gPow : Tryz.prog.globalNamed "internal/strconv.uint64pow10" = some 1 := by kernel_rfl
theorem gSyn : Tryz.prog.globalNamed "strconv.ErrSyntax" = some 2 := by kernel_rfl
theorem tPow : (Tryz.prog.globals[1]?).map (·.type) = some 281 := by kernel_rfl
theorem tSyn : (Tryz.prog.globals[2]?).map (·.type) = some 212 := by kernel_rfl
theorem heap_of_var {P : Program} {nm : String} {g : Nat} (hg : P.globalNamed nm = some g) {w : World} {cs : Array Value} (h : w.var? P nm = some cs) : ∃ t fz, w.heap[g]? = some (.cells cs t fz) := by
  unfold World.var? at h
  rw [hg] at h
  simp only [Option.bind_some] at h
  split at h
  · rename_i c t fz hh
    obtain rfl := Option.some.inj h
    exact ⟨t, fz, hh⟩
  · cases h
theorem plain5 : laidMetH Tryz.prog Rows.walVotesRow.laid = laidMet Tryz.prog Rows.walVotesRow.laid := by
  funext W
  exact propext (Iff.of_eq (MakeChecks.laidMetH_plain _ _ _ (by kernel_rfl)))
theorem glob_of_laid {W : World} (h : laidMetH Tryz.prog Rows.walVotesRow.laid W) : Glob W := by
  rw [plain5] at h
  constructor
  · have h2 := h.filter (fun x => x.1 == "internal/strconv.uint64pow10")
    rw [show (Rows.walVotesRow.laid.filter (fun x => x.1 == "internal/strconv.uint64pow10")) = [("internal/strconv.uint64pow10", Lib.tabData .u64 Lib.pow10Tab)] from by kernel_rfl] at h2
    exact heap_of_var gPow (Lib.tabIs_of_head gPow tPow Tryz.underlying281 Tryz.underlying210 (by kernel_rfl) (by kernel_rfl) h2)
  · have h2 := h.filter (fun x => x.1 == "strconv.ErrSyntax")
    rw [show (Rows.walVotesRow.laid.filter (fun x => x.1 == "strconv.ErrSyntax")) = [("strconv.ErrSyntax", Rows.laid_strconv_ErrSyntax)] from by kernel_rfl] at h2
    obtain ⟨ps, ⟨g, t, cs, fuel, p, q, hg, ht, hv, hd, _, _⟩, _⟩ := h2
    obtain rfl := Option.some.inj (gSyn.symm.trans hg)
    obtain rfl := Option.some.inj (tSyn.symm.trans ht)
    obtain ⟨_, u, v, hcs, _, _⟩ := iface_of_trod Tryz.underlying212 hd
    obtain ⟨t, fz, hh⟩ := heap_of_var gSyn hv
    obtain ⟨l⟩ := cs
    simp only at hcs
    subst hcs
    exact ⟨u, v, t, fz, hh⟩
end Go.Proofs.YtjcikhacekmcfaaGreatDoor
