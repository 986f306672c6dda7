import Derived.Test.YtjcikhacekmcfaaGreatDoorZh
/- Same: of two states that are the same. -/
namespace Go.Proofs.YtjcikhacekmcfaaGreatDoor
open Go.RowKit
open PlainDisk (File Disk)
open PWal (St Ent Chg)
set_option linter.unusedVariables false
set_option maxRecDepth 100000
set_option maxHeartbeats 4000000 in
theorem same_any (s : St) (A A' : Option Addr) (c c' : Nat) (w : World) (h1 : EntAt w A c s.log) (h2 : EntAt w A' c' s.log) (hn0 : s.log.length ≤ 10000000) : Calls Tryz.prog 22 #[stV s (.slice A s.log.length c), stV s (.slice A' s.log.length c')] w fun e w' => e = .returned (.bool true) ∧ Below w.heap.size w w' := by
  have HE := Lib.hid h1
  have HE' := Lib.hid h2
  have c1 := h1.1
  have c2 := h1.2.1
  have c3 := h2.1
  have c4 := h2.2.1
  obtain ⟨n, hn⟩ : ∃ n, n = s.log.length := ⟨_, rfl⟩
  have HN := Lib.hid hn
  unfold stV
  rw [← hn] at c1 c3 ⊢
  obtain ⟨st, sv, si, ss, sd, l⟩ := s
  simp only at hn HE HE' HN ⊢
  have hn63 : (n : Int) ≤ 9223372036854775807 := by omega
  clear h1 h2 hn hn0
  obtain ⟨W, hW⟩ : ∃ W, (w.alloc (.cells #[.int .i64 st, .int .i64 sv, .int .i64 si, .int .i64 ss, .string (str sd), .slice A n c] 51)).alloc (.cells #[.int .i64 st, .int .i64 sv, .int .i64 si, .int .i64 ss, .string (str sd), .slice A' n c'] 51) = W := ⟨_, rfl⟩
  have HW := Lib.hid hW
  have hbW : Below w.heap.size w W := hW ▸ ((below_new w _).alloc (by simp) _)
  have hx0 : W.heap[w.heap.size]? = some (.cells #[.int .i64 st, .int .i64 sv, .int .i64 si, .int .i64 ss, .string (str sd), .slice A n c] 51 (0, 0)) := by
    rw [← hW, Below.heap_alloc _ _ _ (by simp)]; exact heap_alloc_new w _
  have hx1 : W.heap[w.heap.size + 1]? = some (.cells #[.int .i64 st, .int .i64 sv, .int .i64 si, .int .i64 ss, .string (str sd), .slice A' n c'] 51 (0, 0)) := by
    rw [← hW]
    have := heap_alloc_new (w.alloc (.cells #[.int .i64 st, .int .i64 sv, .int .i64 si, .int .i64 ss, .string (str sd), .slice A n c] 51)) (.cells #[.int .i64 st, .int .i64 sv, .int .i64 si, .int .i64 ss, .string (str sd), .slice A' n c'] 51)
    simpa using this
  have p0 : W.cell? ⟨w.heap.size, 0, none⟩ = some (.int .i64 st) := by rw [Lib.cell_of_heap hx0]; rfl
  have p1 : W.cell? ⟨w.heap.size, 1, none⟩ = some (.int .i64 sv) := by rw [Lib.cell_of_heap hx0]; rfl
  have p2 : W.cell? ⟨w.heap.size, 2, none⟩ = some (.int .i64 si) := by rw [Lib.cell_of_heap hx0]; rfl
  have p3 : W.cell? ⟨w.heap.size, 3, none⟩ = some (.int .i64 ss) := by rw [Lib.cell_of_heap hx0]; rfl
  have p4 : W.cell? ⟨w.heap.size, 4, none⟩ = some (.string (str sd)) := by rw [Lib.cell_of_heap hx0]; rfl
  have p5 : W.cell? ⟨w.heap.size, 5, none⟩ = some (.slice A n c) := by rw [Lib.cell_of_heap hx0]; rfl
  have q0 : W.cell? ⟨w.heap.size + 1, 0, none⟩ = some (.int .i64 st) := by rw [Lib.cell_of_heap hx1]; rfl
  have q1 : W.cell? ⟨w.heap.size + 1, 1, none⟩ = some (.int .i64 sv) := by rw [Lib.cell_of_heap hx1]; rfl
  have q2 : W.cell? ⟨w.heap.size + 1, 2, none⟩ = some (.int .i64 si) := by rw [Lib.cell_of_heap hx1]; rfl
  have q3 : W.cell? ⟨w.heap.size + 1, 3, none⟩ = some (.int .i64 ss) := by rw [Lib.cell_of_heap hx1]; rfl
  have q4 : W.cell? ⟨w.heap.size + 1, 4, none⟩ = some (.string (str sd)) := by rw [Lib.cell_of_heap hx1]; rfl
  have q5 : W.cell? ⟨w.heap.size + 1, 5, none⟩ = some (.slice A' n c') := by rw [Lib.cell_of_heap hx1]; rfl
  have HB := Lib.hid hbW
  have HE2 := Lib.hid (HE.out.keep hbW)
  have HE3 := Lib.hid (HE'.out.keep hbW)
  have HP := Lib.hid (fun V (h : Below W.heap.size W V) => show V.cell? ⟨w.heap.size, 5, none⟩ = some (.slice A n c) ∧ V.cell? ⟨w.heap.size + 1, 5, none⟩ = some (.slice A' n c') from ⟨(h.cell (p := ⟨w.heap.size, 5, none⟩) (World.block_lt_of_cell? W _ p5)).trans p5, (h.cell (p := ⟨w.heap.size + 1, 5, none⟩) (World.block_lt_of_cell? W _ q5)).trans q5⟩)
  clear hbW hW hx0 hx1 HE HE'
  go_enter Tryz.func22, Tryz.ntmps22
  go_wp2_with fail
  rw [HW.out]
  clear p0 p1 p2 p3 p4 p5 q0 q1 q2 q3 q4 q5
  go_loopw [5] (fun jV wr => ∃ (j : Nat), jV = .int .i64 (j : Nat) ∧ j ≤ n ∧ Hid (Below W.heap.size W wr)) (fun jV _ => n - (numOf jV).toNat)
  case atStart => exact ⟨0, rfl, by omega, Lib.hid (Below.refl _ _)⟩
  case round =>
    obtain ⟨j, rfl, hj, hwr⟩ := hrel
    obtain ⟨p5, q5⟩ := HP.out wr hwr.out
    by_cases hjn : j < n
    · have hjn2 : (j : Int) < (n : Int) := by omega
      obtain ⟨y, hy⟩ : ∃ y, l[j]? = some y := ⟨_, List.getElem?_eq_getElem (by rw [← HN.out]; exact hjn)⟩
      obtain ⟨g, off, rfl, y0, y1⟩ := (HE2.out.keep hwr.out).one hy
      obtain ⟨g', off', rfl, z0, z1⟩ := (HE3.out.keep hwr.out).one hy
      clear hy
      go_wp2_with fail
      go_region
      go_wp2_with fail
      go_roundw
      case rel => exact ⟨j + 1, by go_num, by omega, Lib.hid hwr.out.drew⟩
      case measure => simp [numOf]; omega
    · have hjn2 : ¬ ((j : Int) < (n : Int)) := by omega
      go_wp2_with fail
      go_ret
      exact ⟨rfl, HB.out.trans (hwr.out.mono HB.out.size)⟩
end Go.Proofs.YtjcikhacekmcfaaGreatDoor
