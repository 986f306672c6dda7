import Derived.Test.YtjpnkecfoealoaaRd
namespace Go.Proofs.Ytjpnkecfoealoaa
set_option maxRecDepth 20000
open Go.RowKit
open Go.Proofs.Ytjpnkecfoealoaa.Vc (I64 fitB RetBelow OwnD DigsAt dC)
set_option linter.unusedVariables false
attribute [local irreducible] wpQuiet
set_option maxHeartbeats 1000000 in
/-- two rows that hold the same numbers are the same -/
theorem same_any (R : List Nat) (A A' : Option Addr) (c c' n : Nat) (w : World) (hA : DigsAt w w.heap.size A R) (hA' : DigsAt w w.heap.size A' R) (hn : R.length = n) (hb : n ≤ 1000) :
    Calls Try.prog 12 #[.slice A n c, .slice A' n c'] w (RetBelow (.bool true) w) := by
  have HA := Lib.hid hA
  have HA' := Lib.hid hA'
  have HN := Lib.hid hn
  have B0 := Lib.hid (Below.refl w.heap.size w)
  clear hA hA' hn
  have hne : ((n : Int) != n) = false := by simp
  go_enter Try.func12, Try.ntmps12
  go_wp2_with fail
  go_loopw [5, 13] (fun t5 t13 wr => ∃ (j : Nat) (v5 : Value), j ≤ n ∧ t5 = v5 ∧ t13 = .int .i64 j ∧ Below w.heap.size w wr) (fun _ t13 _ => n - (intOf t13).toNat)
  case atStart => exact ⟨0, _, Nat.zero_le _, rfl, rfl, B0.out⟩
  case round =>
  obtain ⟨j, v5, hj, rfl, rfl, hB⟩ := hrel
  have HB := Lib.hid hB
  clear hB
  by_cases hjn : j < n
  · have hjl : j < R.length := by rw [HN.out]; exact hjn
    obtain ⟨ba, oa, rfl, hla, hca⟩ := HA.out (fun e => by rw [e] at hjl; cases hjl)
    obtain ⟨bb, ob, rfl, hlb, hcb⟩ := HA'.out (fun e => by rw [e] at hjl; cases hjl)
    have ho := List.getElem?_eq_getElem hjl
    have hco := hca j R[j] ho
    have hcp := hcb j R[j] ho
    clear hca hcb ho
    generalize R[j] = o at *
    clear hjl
    have hj1 : (j : Int) < n := by omega
    have ho1 : ((o : Int) != o) = false := by simp
    go_wp2_with fail
    have co : ∀ Z : Wd (fun X => Below w.heap.size w X), Z.X.cell? ⟨ba, oa + j, none⟩ = some (.int .i64 (o : Nat)) := fun Z => (Z.ok.cell (p := ⟨ba, oa + j, none⟩) hla).trans hco
    have cp : ∀ Z : Wd (fun X => Below w.heap.size w X), Z.X.cell? ⟨bb, ob + j, none⟩ = some (.int .i64 (o : Nat)) := fun Z => (Z.ok.cell (p := ⟨bb, ob + j, none⟩) hlb).trans hcp
    refine wp_region_class (fun X => Below w.heap.size w X) (by kernel_rfl) (by kernel_rfl) (HB.out.trans (Below.refl _ _).drew) (fun hne => ?_)
    haveI := hne
    iterate 9 (quiet_step (fail))
    refine wpQuiet_nil ?_
    intro z1 hz1
    obtain ⟨⟨zz, EZ⟩, rfl⟩ := hz1
    have EZ := Lib.hid EZ
    clear co cp
    go_wp2_with fail
    go_roundw
    case rel => exact ⟨j + 1, _, by omega, rfl, by go_num, EZ.out⟩
    case measure => simp [intOf] <;> omega
  · obtain rfl : j = n := by omega
    have hd8 : decide ((j : Int) < j) = false := by simp
    have hd9 : decide (j < j) = false := by simp
    go_wp2_with fail
    go_ret
    exact ⟨rfl, HB.out⟩
end Go.Proofs.Ytjpnkecfoealoaa
