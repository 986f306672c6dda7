import Derived.Test.YtphclpjekpdifaaTe
import Derived.Test.YtphclpjekpdifaaPc
import Derived.BigQuiet
namespace Go.Proofs.Ytphclpjekpdifaa
set_option maxRecDepth 20000
open Go.RowKit
open SP
open Go.Proofs.Ytphclpjekpdifaa.Nm (str)
open Wi (RetBelow)
set_option linter.unusedVariables false
/-! ### what may be in a table -/
def isIdx (n : Int) : Bool := decide (0 ≤ n) && decide (n ≤ 4611686018427387904)
theorem isIdx_any (n : Int) (w : World) : Calls Try.prog 44 #[.int .i64 n] w fun e w' => e = .returned (.bool (isIdx n)) ∧ w' = w := by
  unfold isIdx
  by_cases h : 0 ≤ n
  · have g1 : decide (0 ≤ n) = true := by simpa using h
    go_enter Try.func44, Try.ntmps44
    go_wp2_with fail
    go_ret
    exact ⟨by rw [g1]; rfl, rfl⟩
  · have g1 : decide (0 ≤ n) = false := by simpa using h
    rw [g1]
    go_enter Try.func44, Try.ntmps44
    go_wp2_with fail
    go_ret
    exact ⟨rfl, rfl⟩
theorem eq38v (o : Int) (s : ByteArray) (a b c n : Int) (o' : Int) (s' : ByteArray) (a' b' c' n' : Int) (w : World) : (binOp .eql 27 (.agg #[.int .i64 o, .string s, .int .i64 a, .int .i64 b, .int .i64 c, .int .i64 n]) (.agg #[.int .i64 o', .string s', .int .i64 a', .int .i64 b', .int .i64 c', .int .i64 n'])).run Try.prog w = .ok (.bool (Wi.eqR o s a b c n o' s' a' b' c' n')) w := by
  rw [run_eql_struct]
  have := Wi.eq34 o s a b c n o' s' a' b' c' n' w
  unfold Wi.rV at this
  rw [this]
  rfl
def mayB (clk lst : Int) (s : Ses) : Bool := decide (s.id ≤ lst) && (isIdx s.u && (decide (s.u ≤ clk) && (isIdx s.seq && (decide (0 < s.seq) || Wi.eqR s.r.e s.r.s s.r.a s.r.b s.r.c s.r.n 0 ⟨#[]⟩ 0 0 0 0))))
set_option maxHeartbeats 4000000 in
theorem mayHave_any (b : Nat) (clk lst : Int) (v : Value) (s : Ses) (w : World) (h : w.heap[b]? = some (.cells #[.int .i64 clk, .int .i64 lst, v] 49 (0, 0))) : Calls Try.prog 46 #[.pointer (some ⟨b, 0, none⟩), sesV s] w (RetBelow (.bool (mayB clk lst s)) w) := by
  unfold mayB
  have hbl := (Array.getElem?_eq_some_iff.1 h).1
  obtain ⟨sid, sq, ⟨re, rs, ra, rb, rc, rn⟩, su⟩ := s
  unfold sesV
  dsimp only
  have HB := Lib.hid ((Below.refl w.heap.size w).alloc (Nat.le_refl _) (.cells #[.int .i64 sid, .int .i64 sq, .int .i64 re, .string rs, .int .i64 ra, .int .i64 rb, .int .i64 rc, .int .i64 rn, .int .i64 su] 52))
  have HN := heap_alloc_new w (.cells #[.int .i64 sid, .int .i64 sq, .int .i64 re, .string rs, .int .i64 ra, .int .i64 rb, .int .i64 rc, .int .i64 rn, .int .i64 su] 52)
  have HT : (w.alloc (.cells #[.int .i64 sid, .int .i64 sq, .int .i64 re, .string rs, .int .i64 ra, .int .i64 rb, .int .i64 rc, .int .i64 rn, .int .i64 su] 52)).heap[b]? = some (.cells #[.int .i64 clk, .int .i64 lst, v] 49 (0, 0)) := (Below.heap_alloc w _ b hbl).trans h
  obtain ⟨x0, x1, x2, x3, x4, x5, x6, x7, x8, _⟩ := rowc9 HN
  obtain ⟨y0, y1, y2, _⟩ := tcells HT
  have hI := Lib.hid isIdx_any
  have heq := fun W => eq38v re rs ra rb rc rn 0 ⟨#[]⟩ 0 0 0 0 W
  have hbd : ∀ W : World, (Instr.build 27 #[]).run Try.prog W = .ok (.agg #[.int .i64 0, .string ⟨#[]⟩, .int .i64 0, .int .i64 0, .int .i64 0, .int .i64 0]) W := fun W => run_build W 27 _ _ (by kernel_rfl)
  generalize Wi.eqR re rs ra rb rc rn 0 ⟨#[]⟩ 0 0 0 0 = EQ at *
  have HU := Lib.hid fun W => isIdx_any su W
  have HS := Lib.hid fun W => isIdx_any sq W
  generalize isIdx su = IU at *
  generalize isIdx sq = IS at *
  go_enter Try.func46, Try.ntmps46
  go_wp2_with fail
  have HBA := HB
  generalize w.alloc (.cells #[.int .i64 sid, .int .i64 sq, .int .i64 re, .string rs, .int .i64 ra, .int .i64 rb, .int .i64 rc, .int .i64 rn, .int .i64 su] 52) = W at *
  clear HN HT h
  by_cases c1 : sid ≤ lst
  · have g1 : decide (sid ≤ lst) = true := by simpa using c1
    cases IU with
    | true =>
      by_cases c3 : su ≤ clk
      · have g3 : decide (su ≤ clk) = true := by simpa using c3
        cases IS with
        | true =>
          by_cases c5 : 0 < sq
          · have g5 : decide (0 < sq) = true := by simpa using c5
            go_quiet (first | (go_at_call 44; refine Calls.quiet_of_same (HU.out _)) | (go_at_call 44; refine Calls.quiet_of_same (HS.out _)))
            all_goals go_wp2_with fail
            all_goals go_ret
            all_goals exact ⟨by simp [*], below_drewN HBA.out _⟩
          · have g5 : decide (0 < sq) = false := by simpa using c5
            go_quiet (first | (go_at_call 44; refine Calls.quiet_of_same (HU.out _)) | (go_at_call 44; refine Calls.quiet_of_same (HS.out _)))
            all_goals go_wp2_with fail
            all_goals go_ret
            all_goals exact ⟨by simp [*], below_drewN HBA.out _⟩
        | false =>
          go_quiet (first | (go_at_call 44; refine Calls.quiet_of_same (HU.out _)) | (go_at_call 44; refine Calls.quiet_of_same (HS.out _)))
          all_goals go_wp2_with fail
          all_goals go_ret
          all_goals exact ⟨by simp [*], below_drewN HBA.out _⟩
      · have g3 : decide (su ≤ clk) = false := by simpa using c3
        go_quiet (first | (go_at_call 44; refine Calls.quiet_of_same (HU.out _)) | (go_at_call 44; refine Calls.quiet_of_same (HS.out _)))
        all_goals go_wp2_with fail
        all_goals go_ret
        all_goals exact ⟨by simp [*], below_drewN HBA.out _⟩
    | false =>
      go_quiet (first | (go_at_call 44; refine Calls.quiet_of_same (HU.out _)) | (go_at_call 44; refine Calls.quiet_of_same (HS.out _)))
      all_goals go_wp2_with fail
      all_goals go_ret
      all_goals exact ⟨by simp [*], below_drewN HBA.out _⟩
  · have g1 : decide (sid ≤ lst) = false := by simpa using c1
    go_quiet (first | (go_at_call 44; refine Calls.quiet_of_same (HU.out _)) | (go_at_call 44; refine Calls.quiet_of_same (HS.out _)))
    all_goals go_wp2_with fail
    all_goals go_ret
    all_goals exact ⟨by simp [*], below_drewN HBA.out _⟩
end Go.Proofs.Ytphclpjekpdifaa
