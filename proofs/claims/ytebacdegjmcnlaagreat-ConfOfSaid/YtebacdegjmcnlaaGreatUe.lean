import Derived.Test.YtebacdegjmcnlaaGreatUd
import Derived.Test.YtebacdegjmcnlaaGreatXn
import Derived.LoopN
namespace Go.Proofs.YtebacdegjmcnlaaGreat
open Go.RowKit Pl
set_option linter.unusedVariables false
set_option maxRecDepth 20000
/-- the number of a list's element, or 0 -/
def nmAt (l : List It) (i : Nat) : Int := match l[i]? with | some x => num x | none => 0
def upTo (l : List It) (i j : Nat) : Int := if i < j then nmAt l i else 0
theorem upTo_end {l : List It} {i j : Nat} (hi : i < 3) (h : j = 3 ∨ j = l.length) (hj : j ≤ l.length) : upTo l i j = nmAt l i := by
  unfold upTo
  by_cases h1 : i < j
  · rw [if_pos h1]
  · rw [if_neg h1]
    unfold nmAt
    rw [List.getElem?_eq_none (by omega)]
def NumRel (l : List It) (w : World) (it : Array Value) (u : Value) (wr : World) : Prop :=
  ∃ j : Nat, j ≤ 3 ∧ j ≤ l.length ∧ u = .int .i64 j ∧ VSt w wr (upTo l 0 j) (upTo l 1 j) (upTo l 2 j) ∧ wr.heap[w.heap.size]? = some (.cells it 50 (0, 0))
set_option maxHeartbeats 1000000 in
theorem numbers_any (k n : Int) (s : ByteArray) (l : List It) (A : Option Addr) (c : Nat) (w : World) (hl : l.length ≤ maxLen) (hal : AreIts w (· < w.heap.size) l A 0) :
    Calls Tryz.prog 38 #[.agg #[.int .i64 k, .int .i64 n, .string s, .slice A l.length c]] w (RetBelow (.agg #[.int .i64 (nmAt l 0), .int .i64 (nmAt l 1), .int .i64 (nmAt l 2)]) w) := by
  have HL := Lib.hid hal
  unfold maxLen at hl
  obtain ⟨W, hW⟩ : ∃ W, W = (((w.alloc (.cells #[.int .i64 k, .int .i64 n, .string s, .slice A l.length c] 50)).alloc (.cells #[.int .i64 0, .int .i64 0, .int .i64 0] 30)).alloc (.cells #[.int .i64 0, .int .i64 0, .int .i64 0] 30)) := ⟨_, rfl⟩
  have hV : VSt w W 0 0 0 := by
    rw [hW]
    refine ⟨(Below.heap_alloc _ _ _ (by simp)).trans ?_, ?_, (((Below.refl _ _).alloc (Nat.le_refl _) _).alloc (by simp) _).alloc (by simp; omega) _, by simp⟩
    · rw [show w.heap.size + 1 = (w.alloc (.cells #[.int .i64 k, .int .i64 n, .string s, .slice A l.length c] 50)).heap.size from by simp]; exact heap_alloc_new _ _
    · rw [show w.heap.size + 1 + 1 = ((w.alloc (.cells #[.int .i64 k, .int .i64 n, .string s, .slice A l.length c] 50)).alloc (.cells #[.int .i64 0, .int .i64 0, .int .i64 0] 30)).heap.size from by simp]; exact heap_alloc_new _ _
  have hR : W.heap[w.heap.size]? = some (.cells #[.int .i64 k, .int .i64 n, .string s, .slice A l.length c] 50 (0, 0)) := by
    rw [hW]
    exact (Below.heap_alloc _ _ _ (by simp; omega)).trans ((Below.heap_alloc _ _ _ (by simp)).trans (heap_alloc_new _ _))
  have HV := Lib.hid hV
  have HR := Lib.hid hR
  have HW := Lib.hid hW
  clear hal hV hR hW
  go_enter Tryz.func38, Tryz.ntmps38
  go_wp2_with fail
  rw [← HW.out]
  go_loopw [4] (fun u wr => NumRel l w #[.int .i64 k, .int .i64 n, .string s, .slice A l.length c] u wr) (fun u _ => 3 - (intOf u).toNat)
  case atStart => exact ⟨0, by omega, by omega, rfl, HV.out, HR.out⟩
  case round =>
    obtain ⟨j, hj3, hjl, rfl, hv, hr⟩ := hrel
    have HVR := Lib.hid hv
    have HRR := Lib.hid hr
    have hc3 : wr.cell? ⟨w.heap.size, 3, none⟩ = some (.slice A l.length c) := cell_of_row wr _ 3 _ _ _ hr
    obtain ⟨y0, y1, y2, z0, z1, z2⟩ := row3 hv.r2
    obtain ⟨a0, a1, a2, b0, b1, b2⟩ := row3 hv.r1
    clear hv hr
    by_cases hlt : j < 3 ∧ j < l.length
    · obtain ⟨h3, hlt⟩ := hlt
      obtain ⟨x, hx⟩ : ∃ x, l[j]? = some x := ⟨_, List.getElem?_eq_getElem hlt⟩
      obtain ⟨b, off, A1, c1, rfl, hSb, C, _⟩ := cel_of HL.out hx
      have C2 := C.keep (HVR.out.bl.block b hSb)
      have k0 := C2.c0
      have k1 := C2.c1
      have k2 := C2.c2
      have k3 := C2.c3
      have hbl : b < wr.heap.size := Nat.lt_of_lt_of_le hSb HVR.out.bl.size
      have hN : nmAt l j = num x := by unfold nmAt; rw [hx]
      have HN := Lib.hid hN
      clear C C2 hx hN
      have hj0 : j = 0 ∨ j = 1 ∨ j = 2 := by omega
      have hlt2 : (j : Int) < l.length := by omega
      rcases hj0 with rfl | rfl | rfl
      · go_wp2_with fail
        go_roundw
        case rel => exact ⟨1, by omega, by omega, by go_num, by
          have := HVR.out.set 0 (.int .i64 (num x)) (a' := num x) (b' := upTo l 1 0) (c' := upTo l 2 0) rfl
          rw [← HN.out] at this ⊢
          exact this, (Below.heap_setCell _ _ _ _ (by simp; omega)).trans HRR.out⟩
        case measure => simp [intOf]
      · go_wp2_with fail
        go_roundw
        case rel => exact ⟨2, by omega, by omega, by go_num, by
          have := HVR.out.set 1 (.int .i64 (num x)) (a' := upTo l 0 1) (b' := num x) (c' := upTo l 2 1) rfl
          rw [← HN.out] at this ⊢
          exact this, (Below.heap_setCell _ _ _ _ (by simp; omega)).trans HRR.out⟩
        case measure => simp [intOf]
      · go_wp2_with fail
        go_roundw
        case rel => exact ⟨3, by omega, by omega, by go_num, by
          have := HVR.out.set 2 (.int .i64 (num x)) (a' := upTo l 0 2) (b' := upTo l 1 2) (c' := num x) rfl
          rw [← HN.out] at this ⊢
          exact this, (Below.heap_setCell _ _ _ _ (by simp; omega)).trans HRR.out⟩
        case measure => simp [intOf]
    · have he : j = 3 ∨ j = l.length := by omega
      have E0 := upTo_end (i := 0) (by omega) he hjl
      have E1 := upTo_end (i := 1) (by omega) he hjl
      have E2 := upTo_end (i := 2) (by omega) he hjl
      rw [E0] at y0
      rw [E1] at y1
      rw [E2] at y2
      have hj2 : ¬ j < 3 ∨ (j < 3 ∧ ¬ (j : Int) < l.length) := by omega
      have T3 := Lib.hid HVR.out.r1
      have hbl := Lib.hid HVR.out.bl
      clear E0 E1 E2 he hlt
      rcases hj2 with hj2 | ⟨hj2, hj4⟩
      all_goals
        go_wp2_with fail
        have F := heap_set _ (w.heap.size + 1) 2 (.int .i64 (nmAt l 2)) _ _ (heap_set _ (w.heap.size + 1) 1 (.int .i64 (nmAt l 1)) _ _ (heap_set wr (w.heap.size + 1) 0 (.int .i64 (nmAt l 0)) _ _ T3.out))
        have BF : Below w.heap.size w (((wr.setCell ⟨w.heap.size + 1, 0, none⟩ (.int .i64 (nmAt l 0))).setCell ⟨w.heap.size + 1, 1, none⟩ (.int .i64 (nmAt l 1))).setCell ⟨w.heap.size + 1, 2, none⟩ (.int .i64 (nmAt l 2))) :=
          (((hbl.out.setCell (p := ⟨w.heap.size + 1, 0, none⟩) (by simp) _).setCell (p := ⟨w.heap.size + 1, 1, none⟩) (by simp) _).setCell (p := ⟨w.heap.size + 1, 2, none⟩) (by simp) _)
        generalize ((wr.setCell ⟨w.heap.size + 1, 0, none⟩ (.int .i64 (nmAt l 0))).setCell ⟨w.heap.size + 1, 1, none⟩ (.int .i64 (nmAt l 1))).setCell ⟨w.heap.size + 1, 2, none⟩ (.int .i64 (nmAt l 2)) = V at *
        have e0 := cell_of_row V _ 0 _ _ _ F
        have e1 := cell_of_row V _ 1 _ _ _ F
        have e2 := cell_of_row V _ 2 _ _ _ F
        simp only [List.setIfInBounds_toArray, List.set_cons_zero, List.set_cons_succ, List.getElem?_toArray, List.getElem?_cons_zero, List.getElem?_cons_succ] at e0 e1 e2
        exact bodyPost_ret (v := .agg #[.int .i64 (nmAt l 0), .int .i64 (nmAt l 1), .int .i64 (nmAt l 2)]) (by simp [results, Tryz.results38, go_sem, e0, e1, e2]) rfl ⟨rfl, BF⟩
end Go.Proofs.YtebacdegjmcnlaaGreat
